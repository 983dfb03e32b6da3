/-
  Contracts: value.check, value.Check.
-/
import Derived.Test.YtollcekcmnokaaaChk9B
namespace Go.Proofs.Ytollcekcmnokaaa
open Go.RowKit Go.BigFrame
set_option linter.unusedVariables false
set_option linter.unusedSimpArgs false

namespace VT
theorem chk_deep {f : Nat} {t : VT} {d : Int} (h : 32 < d) : chk (f + 1) t d = 13 := by rw [chk, if_pos h]
theorem chk_kind {f : Nat} {t : VT} {d : Int} (h : ¬ 32 < d) (hk : t.k < 0 ∨ 4 < t.k) : chk (f + 1) t d = 18 := by rw [chk, if_neg h, if_pos hk]
theorem chk_foreign {f : Nat} {t : VT} {d : Int} (h : ¬ 32 < d) (hk : ¬ (t.k < 0 ∨ 4 < t.k)) (hf : t.foreign = true) : chk (f + 1) t d = 2 := by rw [chk, if_neg h, if_neg hk, if_pos hf]
theorem chk_items {f : Nat} {t : VT} {d : Int} (h : ¬ 32 < d) (hk : ¬ (t.k < 0 ∨ 4 < t.k)) (hf : t.foreign = false) (hi : first (fun i => chk f (t.item i) (d + 1)) t.xs.length ≠ 0) : chk (f + 1) t d = first (fun i => chk f (t.item i) (d + 1)) t.xs.length := by
  rw [chk, if_neg h, if_neg hk, if_neg (by rw [hf]; decide), if_pos hi]
theorem chk_fields {f : Nat} {t : VT} {d : Int} (h : ¬ 32 < d) (hk : ¬ (t.k < 0 ∨ 4 < t.k)) (hf : t.foreign = false) (hi : first (fun i => chk f (t.item i) (d + 1)) t.xs.length = 0) : chk (f + 1) t d = first (fieldN t (fun i => chk f (t.value i) (d + 1))) t.vs.length := by
  rw [chk, if_neg h, if_neg hk, if_neg (by rw [hf]; decide), if_neg (by rw [hi]; decide)]
  rfl
end VT
theorem foreign_num {t : VT} : t.foreign = t.foreign := rfl

set_option maxRecDepth 100000 in
set_option maxHeartbeats 3200000 in
theorem check_c : ∀ (f : Nat) (t : VT) (d : Nat) (w : World) (hf : SizeOf.sizeOf t < f) (hd : d ≤ 33) (hI : t.In w (· < w.heap.size)),
    Calls Try.prog 32 #[t.val, .int .i64 d] w (IntPost (VT.chk f t d) w) := by
  intro f
  induction f with
  | zero => intro t d w hf; omega
  | succ f ih =>
    intro t d w hf hd hI
    rw [VT.val_eq]
    obtain ⟨hx1, hx2⟩ := hI.lens
    obtain ⟨hk1, hn1, hs1, hc1, hc2, hd1, hd2, _⟩ := hI.bounds
    by_cases hdp : 32 < d
    · have HR := Lib.hid (VT.chk_deep (f := f) (t := t) (d := d) (by omega))
      clear ih
      go_enter Try.func32, Try.ntmps32
      go_wp2_with fail
      go_ret
      exact ⟨by rw [HR.out]; rfl, Bel.alloc _ _⟩
    have hdi : ¬ (32 : Int) < (d : Int) := by omega
    by_cases hkd : t.k < 0 ∨ 4 < t.k
    · have HR := Lib.hid (VT.chk_kind (f := f) (t := t) (d := d) hdi hkd)
      clear ih
      rcases hkd with hkd | hkd
      all_goals
        go_enter Try.func32, Try.ntmps32
        go_wp2_with fail
        go_ret
        exact ⟨by rw [HR.out]; rfl, Bel.alloc _ _⟩
    have hkl : 0 ≤ t.k ∧ t.k ≤ 4 := by omega
    have HI := Lib.hid hI
    have HFG : Hid (∀ W, Bel w W → Calls Try.prog 35 #[.agg #[.int .i64 t.k, .string t.s, .int .i64 t.n, .bool t.b, .slice t.A t.xs.length t.c, .slice t.F t.vs.length t.d]] W fun e w' => e = .returned (.bool t.foreign) ∧ Bel W w') :=
      Lib.hid (fun W hb => hasForeign_c t W (HI.out.bel hb) hkl)
    have HIX : Hid (∀ i, i < t.xs.length → ∀ (W : World), Bel w W → Calls Try.prog 32 #[.agg #[.int .i64 (t.item i).k, .string (t.item i).s, .int .i64 (t.item i).n, .bool (t.item i).b, .slice (t.item i).A (t.item i).xs.length (t.item i).c, .slice (t.item i).F (t.item i).vs.length (t.item i).d], .int .i64 (d + 1)] W (IntPost (VT.chk f (t.item i) (d + 1)) W)) :=
      Lib.hid (fun i h1 W hb => ih _ (d + 1) W (by have := VT.item_size h1; omega) (by omega) ((HI.out.item h1).bel hb))
    have HCF : Hid (∀ W, Bel w W → Calls Try.prog 36 #[.slice t.F t.vs.length t.d, .int .i64 (d + 1)] W (IntPost (first (fieldN t (fun i => VT.chk f (t.value i) (d + 1))) t.vs.length) W)) :=
      Lib.hid (fun W hb => checkFields_c t (d + 1) (by omega) _ W (HI.out.bel hb) (fun i hi W' hb' => ih _ (d + 1) W' (by have := VT.value_size hi; omega) (by omega) ((HI.out.value hi).bel (hb.trans hb'))))
    have HBOX := Lib.hid (Blk.new w 27 t.cs)
    have HW0 : Hid (Bel w (w.alloc (.cells #[.int .i64 t.k, .string t.s, .int .i64 t.n, .bool t.b, .slice t.A t.xs.length t.c, .slice t.F t.vs.length t.d] 27))) := Lib.hid (Bel.alloc _ _)
    have HK2 : Hid (t.foreign = true → VT.chk (f + 1) t d = 2) := Lib.hid (VT.chk_foreign hdi (by omega))
    have HKI : Hid (t.foreign = false → first (fun i => VT.chk f (t.item i) (d + 1)) t.xs.length ≠ 0 → VT.chk (f + 1) t d = first (fun i => VT.chk f (t.item i) (d + 1)) t.xs.length) := Lib.hid (VT.chk_items hdi (by omega))
    have HKF : Hid (t.foreign = false → first (fun i => VT.chk f (t.item i) (d + 1)) t.xs.length = 0 → VT.chk (f + 1) t d = first (fieldN t (fun i => VT.chk f (t.value i) (d + 1))) t.vs.length) := Lib.hid (VT.chk_fields hdi (by omega))
    obtain ⟨hkl1, hkl2⟩ := hkl
    clear ih hf hI hdi hkd
    cases hfo : t.foreign with
    | true =>
      have HR := Lib.hid (HK2.out hfo)
      rw [hfo] at HFG
      clear hfo
      go_enter Try.func32, Try.ntmps32
      go_wp2_with (go_at_call 35; refine (HFG.out _ HW0.out).mono ?_; rintro e w1 ⟨rfl, hb⟩; have HB1 := Lib.hid (HW0.out.trans hb); clear hb)
      go_ret
      exact ⟨by rw [HR.out]; rfl, HB1.out⟩
    | false =>
      have HKI := Lib.hid (HKI.out hfo)
      have HKF := Lib.hid (HKF.out hfo)
      rw [hfo] at HFG
      clear hfo HK2
      obtain ⟨n, hn⟩ : ∃ n, n = t.xs.length := ⟨_, rfl⟩
      have HN := Lib.hid hn
      clear hn
      go_enter Try.func32, Try.ntmps32
      go_wp2_with (go_at_call 35; refine (HFG.out _ HW0.out).mono ?_; rintro e w1 ⟨rfl, hb⟩; have HB1 := Lib.hid (HW0.out.trans hb); have HBX1 := Lib.hid (HBOX.out.below hb HBOX.out.lt); obtain ⟨c0, c1, c2, c3, c4, c5⟩ := cs_cells HBX1.out; clear hb)
      clear c0 c1 c2 c3 c4 c5
      go_loopw [26] (fun s26 wr => ∃ k : Nat, k ≤ t.xs.length ∧ s26 = .int .i64 k ∧ Hid (Bel w wr) ∧ Hid (Blk wr w.heap.size 27 t.cs) ∧ Hid (first (fun i => VT.chk f (t.item i) (d + 1)) k = 0)) (fun s26 _ => t.xs.length - (intOf s26).toNat)
      case atStart => exact ⟨0, Nat.zero_le _, rfl, HB1, HBX1, Lib.hid rfl⟩
      case round =>
        obtain ⟨k, hk, rfl, HB, HBX, HF⟩ := hrel
        obtain ⟨b0, b1, b2, b3, b4, b5⟩ := cs_cells HBX.out
        by_cases hlt : k < t.xs.length
        · obtain ⟨g, o, hA, hg, hcell⟩ := HI.out.items (by omega)
          obtain ⟨c0, c1, c2, c3, c4, c5⟩ := hcell k hlt
          have c0 := (HB.out.cell hg).trans c0
          have c1 := (HB.out.cell hg).trans c1
          have c2 := (HB.out.cell hg).trans c2
          have c3 := (HB.out.cell hg).trans c3
          have c4 := (HB.out.cell hg).trans c4
          have c5 := (HB.out.cell hg).trans c5
          have HC := Lib.hid (HIX.out k hlt)
          have H1 : Hid (VT.chk f (t.item k) (d + 1) ≠ 0 → VT.chk (f + 1) t d = VT.chk f (t.item k) (d + 1)) := Lib.hid (fun h => by
            have e := first_hit HF.out h hlt
            rw [HKI.out (by rw [e]; exact h), e])
          have H2 : Hid (VT.chk f (t.item k) (d + 1) = 0 → first (fun i => VT.chk f (t.item i) (d + 1)) (k + 1) = 0) := Lib.hid (fun h => first_step HF.out h)
          rw [hA]
          clear hcell b0 b1 b2 b3 b4 b5
          generalize VT.chk f (t.item k) (d + 1) = r at *
          generalize t.item k = x at *
          go_wp2_with (go_at_call 32; refine (HC.out _ (HB.out.trans (Bel.alloc _ _))).mono ?_; rintro e w2 ⟨rfl, hb1⟩; have HB2 := Lib.hid (HB.out.trans ((Bel.alloc _ _).trans hb1)); have HBX2 := Lib.hid ((HBX.out.alloc (.cells #[.int .i64 x.k, .string x.s, .int .i64 x.n, .bool x.b, .slice x.A x.xs.length x.c, .slice x.F x.vs.length x.d] 27)).below hb1 (by simp; have := HBX.out.lt; omega)); clear hb1)
          · have h9 : (r != 0) = true := by assumption
            have HR := Lib.hid (H1.out (by simpa using h9))
            go_ret
            exact ⟨by rw [HR.out]; rfl, HB2.out⟩
          · have h9 : (r != 0) = false := by assumption
            have HR := Lib.hid (H2.out (by simpa using h9))
            go_roundw
            case rel => exact ⟨k + 1, by omega, by go_num, HB2, HBX2, HR⟩
            case measure => simp [intOf]; omega
        · obtain rfl : t.xs.length = k := by omega
          have HR := Lib.hid (HKF.out HF.out)
          go_wp2_with (go_at_call 36; refine (HCF.out _ HB.out).mono ?_; rintro e w2 ⟨rfl, hb1⟩; have HB2 := Lib.hid (HB.out.trans hb1); clear hb1)
          go_ret
          exact ⟨by rw [HR.out]; rfl, HB2.out⟩
/-- Check. -/
theorem Check_c (t : VT) (w : World) (hI : t.In w (· < w.heap.size)) :
    Calls Try.prog 21 #[t.val] w (IntPost (VT.chk (SizeOf.sizeOf t + 1) t 1) w) := by
  rw [VT.val_eq]
  have HC := Lib.hid (show Calls Try.prog 32 #[.agg #[.int .i64 t.k, .string t.s, .int .i64 t.n, .bool t.b, .slice t.A t.xs.length t.c, .slice t.F t.vs.length t.d], .int .i64 1] _ _ from
    check_c (SizeOf.sizeOf t + 1) t 1 (w.alloc (.cells #[.int .i64 t.k, .string t.s, .int .i64 t.n, .bool t.b, .slice t.A t.xs.length t.c, .slice t.F t.vs.length t.d] 27)) (by omega) (by omega) (hI.bel (Bel.alloc _ _)))
  go_enter Try.func21, Try.ntmps21
  go_wp2_with (go_at_call 32; refine HC.out.mono ?_; rintro e w1 ⟨rfl, hb⟩; have HB := Lib.hid ((Bel.alloc _ _).trans hb); clear hb)
  go_ret
  exact ⟨rfl, HB.out⟩
end Go.Proofs.Ytollcekcmnokaaa
