/-
  The example of the chapter on ring, walked: 'alive' returns true.
-/
import Derived.Test.YtjlmmibokppkgaaRing
import Derived.Test.YtjlmmibokppkgaaFrame
import Derived.Test.YtjlmmibokppkgaaRegion
namespace Go.Proofs.Ytjlmmibokppkgaa
open Go.RowKit Go.BigFrame
set_option linter.unusedVariables false
set_option linter.unusedSimpArgs false
attribute [local go_sem ↓] sliced_cut run_min2 run_max2
attribute [local go_sem] cutA_zero

set_option maxHeartbeats 400000 in
theorem alive_any (w : World) :
    Calls Try.prog 16 #[] w fun e w' => e = .returned (.bool true) ∧ Only [] w w' := by
  have kc := fun (w : World) (C : Array Value) (n c : Nat) => Lib.run_convert_bytes_const (P := Try.prog) w 25 5 C n c Try.underlying25 Try.underlying5
  go_enter Try.func16, Try.ntmps16
  go_wp2_with fail
  refine (new_any 3 (by omega) (by omega) _).mono ?_
  rintro e w1 ⟨r, bb, rfl, hr, hbb, hR1, hO1⟩
  go_wp2_with fail
  have hb1 := Reads.fresh w1 [97, 98, 99, 100] #[.int .u8 97, .int .u8 98, .int .u8 99, .int .u8 100] (by rfl) 5 (4, 5) (w1.heap.size + 1) (by omega)
  refine (put_any (hR1.alloc _) (b := [97, 98, 99, 100]) (by simpa using hb1) (fun _ ad e => by injection e with e; subst e; have := hR1.body.lt; simp; omega) (by omega) (by decide) 3 (by decide)).mono ?_
  rintro e w2 ⟨rfl, hR2, hO2⟩
  go_wp2_with fail
  refine (consume_any hR2 2 1 (by omega) (by decide)).mono ?_
  rintro e w3 ⟨rfl, hR3, hO3⟩
  go_wp2_with fail
  have hb2 := Reads.fresh w3 [100, 101] #[.int .u8 100, .int .u8 101] (by rfl) 5 (2, 3) (w3.heap.size + 1) (by omega)
  refine (put_any (hR3.alloc _) (b := [100, 101]) (by simpa using hb2) (fun _ ad e => by injection e with e; subst e; have := hR3.body.lt; simp; omega) (by omega) (by decide) 2 (by decide)).mono ?_
  rintro e w4 ⟨rfl, hR4, hO4⟩
  go_wp2_with fail
  refine (peek_any hR4 9 3 (by decide)).mono ?_
  rintro e w5 ⟨g, rfl, hg, hB5, hO5⟩
  have hcv := run_string_of (P := Try.prog) (src := 25) (dst := 9) Try.underlying25 Try.underlying5 Try.underlying9 (l := [99, 100, 101]) (A := some ⟨g, 0, none⟩) (n := 3)
    (Reads.of_blk hB5 0 3 (by decide) hB5.lt) 3
  go_wp2_with fail
  go_ret
  refine ⟨rfl, ?_⟩
  have a1 := hO1.alloc (.cells #[.int .u8 97, .int .u8 98, .int .u8 99, .int .u8 100] 5 (4, 5))
  have a2 := a1.join hO2 (by simp; omega)
  have a3 := (a2.join hO3 (by simp; omega)).alloc (.cells #[.int .u8 100, .int .u8 101] 5 (2, 3))
  exact (a3.join hO4 (by simp; omega)).join hO5 (by simp)

theorem only_nil_below {w w' : World} (h : Only [] w w') : Below w.heap.size w w' := h.to_below (Nat.le_refl _) (by simp)

/-! ### RingCapacity -/
set_option maxHeartbeats 400000 in
theorem capacity_walk (n : Int) (w : World) (_ : (Lit.int .i64 n).wf = true) :
    Calls Try.prog 4 #[.int .i64 n] w fun e w' => e = .returned (.bool true) ∧ Below w.heap.size w w' := by
  by_cases h : n < 1 ∨ 65536 < n
  · have h3 : n < 1 ∨ (1 ≤ n ∧ 65536 < n) := by omega
    have hbad := new_bad n h
    clear h
    rcases h3 with h1 | ⟨h0, h1⟩
    all_goals
      go_enter Try.func4, Try.ntmps4
      go_wp2_with fail
      refine (hbad _).mono ?_
      rintro e w1 ⟨rfl, rfl⟩
      go_wp2_with (go_at_call 16; refine (alive_any _).mono ?_; rintro e w2 ⟨rfl, hO2⟩)
      go_ret
      exact ⟨rfl, only_nil_below hO2⟩
  · have h1 : 1 ≤ n := by omega
    have h2 : n ≤ 65536 := by omega
    go_enter Try.func4, Try.ntmps4
    go_wp2_with fail
    refine (new_any n h1 h2 _).mono ?_
    rintro e w1 ⟨r, bb, rfl, hr, hbb, hR1, hO1⟩
    go_wp2_with (first
      | (go_at_call 16; refine (alive_any _).mono ?_; rintro e w2 ⟨rfl, hO2⟩; have hR2 := hR1.only hO2 (by simp) (by simp))
      | (go_at_call 12; refine (len_any hR2).mono ?_; rintro e w' ⟨rfl, rfl⟩)
      | (go_at_call 14; refine (cap_any hR2).mono ?_; rintro e w' ⟨rfl, rfl⟩)
      | (go_at_call 13; refine (free_any hR2 n.toNat (by omega)).mono ?_; rintro e w' ⟨rfl, rfl⟩))
    go_ret
    exact ⟨rfl, (only_nil_below hO1).trans ((only_nil_below hO2).mono hO1.size)⟩

/-! ### RingSpace -/
set_option maxHeartbeats 400000 in
theorem space_walk (n : Int) (A : Option Addr) (m c : Nat) (b : List UInt8) (k : Int) (w : World) (_ : (Lit.int .i64 n).wf = true)
    (hb : b.length = m ∧ m ≤ c ∧ c ≤ maxLen ∧ Reads w w.heap.size A m (vbs b)) (_ : (Lit.int .i64 k).wf = true) :
    Calls Try.prog 7 #[.int .i64 n, .slice A m c, .int .i64 k] w fun e w' => e = .returned (.bool true) ∧ Below w.heap.size w w' := by
  obtain ⟨hbl, hmc, hcm, hrd⟩ := hb
  by_cases h : n < 1 ∨ 65536 < n
  · have hbad := new_bad n h
    clear h hbl hrd
    go_enter Try.func7, Try.ntmps7
    go_wp2_with fail
    refine (hbad _).mono ?_
    rintro e w1 ⟨rfl, rfl⟩
    go_wp2_with (go_at_call 16; refine (alive_any _).mono ?_; rintro e w2 ⟨rfl, hO2⟩)
    go_ret
    exact ⟨rfl, only_nil_below hO2⟩
  · have h1 : 1 ≤ n := by omega
    have h2 : n ≤ 65536 := by omega
    obtain ⟨N, rfl⟩ := Int.eq_ofNat_of_zero_le (show 0 ≤ n by omega)
    have hnew := new_any (N : Int) h1 h2 w
    rw [Int.toNat_natCast] at hnew
    obtain ⟨p, hp⟩ : ∃ p, p = min m N := ⟨_, rfl⟩
    have hmn : imin (m : Int) (N : Int) = (p : Int) := by have := imin_spec (m : Int) (N : Int); omega
    obtain ⟨f, hf⟩ : ∃ f, f + p = N := ⟨N - p, by omega⟩
    have hfe : (N : Int) - (p : Int) = (f : Int) := by omega
    have HB := Lib.hid hbl
    have HF := Lib.hid hf
    have HP := Lib.hid hp
    have HN := Lib.hid hnew
    clear h hbl hf hp hnew
    unfold maxLen at hcm
    have hm63 : m ≤ 9223372036854775807 := by omega
    go_enter Try.func7, Try.ntmps7
    go_wp2_with fail
    refine HN.out.mono ?_
    rintro e w1 ⟨r, bb, rfl, hr, hbb, hR1, hO1⟩
    go_wp2_with fail
    refine (put_any hR1 ((hrd.only' hO1 (Nat.le_refl _) (by simp)).more hO1.size) (fun hm ad e => by obtain ⟨ad', e', hlt, _⟩ := hrd.2 hm; rw [e] at e'; injection e' with e'; subst e'; omega) hmc (by unfold maxLen; omega) p (by rw [HP.out]; rfl)).mono ?_
    rintro e w2 ⟨rfl, hR2, hO2⟩
    rw [Nat.zero_add] at hR2
    go_wp2_with (first
      | (go_at_call 12; refine (len_any hR2).mono ?_; rintro e w' ⟨rfl, rfl⟩)
      | (go_at_call 14; refine (cap_any hR2).mono ?_; rintro e w' ⟨rfl, rfl⟩)
      | (go_at_call 13; refine (free_any hR2 f HF.out).mono ?_; rintro e w' ⟨rfl, rfl⟩))
    clear hmn hfe
    have hpN := hR2.used
    have hN := hR2.hi
    by_cases hk : 0 ≤ k ∧ k ≤ (p : Int)
    · obtain ⟨j, rfl⟩ := Int.eq_ofNat_of_zero_le hk.1
      obtain ⟨d, hd⟩ : ∃ d, d + j = p := ⟨p - j, by omega⟩
      obtain ⟨g, hg⟩ : ∃ g, g + d = N := ⟨N - d, by omega⟩
      have e1 : (p : Int) - (j : Int) = (d : Int) := by omega
      have e2 : (N : Int) - (d : Int) = (g : Int) := by omega
      have hj : (j : Int) ≤ (p : Int) := hk.2
      have HG := Lib.hid hg
      have hcs := consume_any hR2 (j : Int) d (by omega) (by simpa using hd)
      clear hg hd hk
      refine hcs.mono ?_
      clear hcs
      rintro e w3 ⟨rfl, hR3, hO3⟩
      go_wp2_with (first
        | (go_at_call 16; refine (alive_any _).mono ?_; rintro e w4 ⟨rfl, hO4⟩; have hR4 := hR3.only hO4 (by simp) (by simp))
        | (go_at_call 12; refine (len_any hR4).mono ?_; rintro e w' ⟨rfl, rfl⟩)
        | (go_at_call 14; refine (cap_any hR4).mono ?_; rintro e w' ⟨rfl, rfl⟩)
        | (go_at_call 13; refine (free_any hR4 g HG.out).mono ?_; rintro e w' ⟨rfl, rfl⟩))
      go_ret
      refine ⟨rfl, only_nil_below (((hO1.join hO2 (by simp; omega)).join hO3 (by simp; omega)).join hO4 (by simp))⟩
    · have hcs := consume_bad hR2 k (by omega)
      have e2 : (N : Int) - (p : Int) = (f : Int) := by have := HF.out; omega
      refine hcs.mono ?_
      clear hcs
      have h3 : k < 0 ∨ (0 ≤ k ∧ (p : Int) < k) := by omega
      clear hk
      rintro e w3 ⟨rfl, rfl⟩
      rcases h3 with h3 | ⟨h3, h4⟩
      all_goals
        go_wp2_with (first
          | (go_at_call 16; refine (alive_any _).mono ?_; rintro e w4 ⟨rfl, hO4⟩; have hR4 := hR2.only hO4 (by simp) (by simp))
          | (go_at_call 12; refine (len_any hR4).mono ?_; rintro e w' ⟨rfl, rfl⟩)
          | (go_at_call 14; refine (cap_any hR4).mono ?_; rintro e w' ⟨rfl, rfl⟩)
          | (go_at_call 13; refine (free_any hR4 f HF.out).mono ?_; rintro e w' ⟨rfl, rfl⟩))
        go_ret
        exact ⟨rfl, only_nil_below ((hO1.join hO2 (by simp; omega)).join hO4 (by simp))⟩

/-! ### RingPeekIsPrefix -/
theorem wf_u8' {z : Int} (h : (Lit.int .u8 z).wf = true) : ∃ n : Nat, z = n ∧ n ≤ 255 := by
  obtain ⟨h0, h1⟩ := wf_u8 h
  exact ⟨z.toNat, by omega, by omega⟩

/-- 'string(b)' at a world, as a fact that may be carried along. -/
def StrAt (w : World) (A : Option Addr) (n c : Nat) (l : List UInt8) : Prop := (convert 25 9 (.slice A n c)).run Try.prog w = .ok (.string ⟨l.toArray⟩) w
theorem strAt_of {w : World} {B n : Nat} {A : Option Addr} {l : List UInt8} (h : Reads w B A n (vbs l)) (c : Nat) : StrAt w A n c l :=
  run_string_of Try.underlying25 Try.underlying5 Try.underlying9 h c

set_option maxHeartbeats 1000000 in
theorem prefix_walk (A : Option Addr) (m c : Nat) (b : List UInt8) (x y : Int) (w : World)
    (hb : b.length = m ∧ m ≤ c ∧ c ≤ maxLen ∧ Reads w w.heap.size A m (vbs b)) (hx : (Lit.int .u8 x).wf = true) (hy : (Lit.int .u8 y).wf = true) :
    Calls Try.prog 8 #[.slice A m c, .int .u8 x, .int .u8 y] w fun e w' => e = .returned (.bool true) ∧ Below w.heap.size w w' := by
  obtain ⟨hbl, hmc, hcm, hrd⟩ := hb
  obtain ⟨x, rfl, hx⟩ := wf_u8' hx
  obtain ⟨y, rfl, hy⟩ := wf_u8' hy
  have HB := Lib.hid hbl
  clear hbl
  by_cases hm : (65536 : Int) < (m : Int)
  · go_enter Try.func8, Try.ntmps8
    go_wp2_with fail
    refine (new_c 65536 65536 rfl (by omega) (by omega) _).mono ?_
    rintro e w1 ⟨r, bb, rfl, hr, hbb, hR1, hO1⟩
    go_wp2_with (go_at_call 16; refine (alive_any _).mono ?_; rintro e w2 ⟨rfl, hO2⟩)
    go_ret
    exact ⟨rfl, only_nil_below (hO1.trans hO2)⟩
  · have hm' : (m : Int) ≤ 65536 := by omega
    obtain ⟨p, hp⟩ : ∃ p, p = min x y := ⟨_, rfl⟩
    obtain ⟨q, hq⟩ : ∃ q, q = max x y := ⟨_, rfl⟩
    have hmin : imin (x : Int) (y : Int) = (p : Int) := by have := imin_spec (x : Int) (y : Int); omega
    have hmax : imax (x : Int) (y : Int) = (q : Int) := by have := imax_spec (x : Int) (y : Int); omega
    have hp1 : (p : Int) ≤ 255 := by omega
    have hq1 : (q : Int) ≤ 255 := by omega
    obtain ⟨k, hk⟩ : ∃ k, k = min p m := ⟨_, rfl⟩
    obtain ⟨j, hj⟩ : ∃ j, j = min q m := ⟨_, rfl⟩
    have hkj : (k : Int) ≤ (j : Int) := by omega
    have hjm : (j : Int) ≤ (m : Int) := by omega
    have hpk : imin (p : Int) (m : Int) = (k : Int) := by have := imin_spec (p : Int) (m : Int); omega
    have hk1 := Lib.hid (show k = (min (p : Int) (b.length : Int)).toNat by rw [HB.out]; omega)
    have hj1 := Lib.hid (show j = (min (q : Int) (b.length : Int)).toNat by rw [HB.out]; omega)
    have hm1 := Lib.hid (show m = (min (m : Int) (b.length : Int)).toNat by rw [HB.out]; omega)
    clear hp hq hk hj
    go_enter Try.func8, Try.ntmps8
    go_wp2_with fail
    refine (new_c 65536 65536 rfl (by omega) (by omega) _).mono ?_
    rintro e w1 ⟨r, bb, rfl, hr, hbb, hR1, hO1⟩
    go_wp2_with fail
    refine (put_c hR1 (hrd.only' hO1 (Nat.le_refl _) (by simp)) hO1.size (fun hm ad e => by obtain ⟨ad', e', hlt, _⟩ := hrd.2 hm; rw [e] at e'; injection e' with e'; subst e'; omega) hmc (by omega) m (by simp; omega)).mono ?_
    rintro e w2 ⟨rfl, hR2, hO2⟩
    have hR2' : RingOf w2 r bb 65536 b := by
      have e : ([] : List UInt8) ++ b.take m = b := by rw [List.nil_append, List.take_of_length_le (by rw [HB.out]; omega)]
      rw [e] at hR2
      exact hR2
    clear hR2
    go_wp2_with fail
    refine (peek_c hR2' (p : Int) k hk1.out).mono ?_
    rintro e w3 ⟨g1, rfl, hg1, hB3, hO3⟩
    go_wp2_with fail
    refine (peek_c (hR2'.only hO3 (by simp) (by simp)) (q : Int) j hj1.out).mono ?_
    rintro e w4 ⟨g2, rfl, hg2, hB4, hO4⟩
    have hR4 := (hR2'.only hO3 (by simp) (by simp)).only hO4 (by simp) (by simp)
    have HS : Hid (∀ w', Only [] w4.drew w' → (convert 25 9 (.slice A m c)).run Try.prog w' = .ok (.string ⟨b.toArray⟩) w' ∧ (convert 25 9 (.slice (some ⟨g1, 0, none⟩) k k)).run Try.prog w' = .ok (.string ⟨(b.take k).toArray⟩) w' ∧ (convert 25 9 (.slice (some ⟨g2, 0, none⟩) k j)).run Try.prog w' = .ok (.string ⟨(b.take k).toArray⟩) w') := by
      intro w' hO
      have hOa : Only [] w4 w' := (Only.refl [] w4).drew.trans hO
      have hOb := hO3.trans (hO4.trans hOa)
      refine ⟨strAt_of (B := w.heap.size) (((hrd.only' hO1 (Nat.le_refl _) (by simp)).only' hO2 hO1.size ?_).only' hOb (Nat.le_trans hO1.size hO2.size) (by simp)) c, ?_, ?_⟩
      · intro h0 ad e
        obtain ⟨ad', e', hlt, _⟩ := hrd.2 h0
        rw [e] at e'
        injection e' with e'
        subst e'
        simp
        omega
      · have hb3 := hB3.only (hO4.trans hOa) (by simp)
        exact strAt_of (by have := Reads.of_blk hb3 0 k (by rw [vbs_length, List.length_take, HB.out]; omega) hb3.lt; simpa [vbs_take, List.take_take] using this) k
      · have hb4 := hB4.only hOa (by simp)
        exact strAt_of (by have := Reads.of_blk hb4 0 k (by rw [vbs_length, List.length_take, HB.out]; omega) hb4.lt; simpa [vbs_take, List.take_take, Nat.min_eq_left (show k ≤ j by omega)] using this) j
    go_wp2_with fail
    refine region_begin (T := []) (by kernel_rfl) ?_
    refine region_call 0 (by kernel_rfl) rfl (by rfl) (by go_simp; exact ⟨rfl, rfl⟩) ?_   -- Go.Op.call { callee := Go.Callee.value (Go.Operand.func 16), args := #[], argTyp
    refine (alive_any _).mono ?_
    rintro e w5 ⟨rfl, hO5⟩
    refine ⟨_, rfl, hO5, ?_⟩
    have hR5 := (hR4.drewN 1).only hO5 (by simp) (by simp)
    have s1 := fun x : Later [] w5 => (HS.out x.w (hO5.trans x.h)).1
    have s2 := fun x : Later [] w5 => (HS.out x.w (hO5.trans x.h)).2.1
    have s3 := fun x : Later [] w5 => (HS.out x.w (hO5.trans x.h)).2.2
    simp only [List.getElem_toArray, List.getElem_cons_zero, List.getElem_cons_succ, Act.put, List.setIfInBounds_toArray, List.set_cons_zero, List.set_cons_succ]
    refine region_seg [false, true, true, true, true, true, true, true, true, true, true, true, true, true, true, true, true, true, true, true, true, true, true, true, true, true, true, true, true, false, true, true] 14 (by kernel_rfl) (by kernel_rfl) (by kernel_rfl) rfl (fun _ _ d _ _ h => by cases d <;> exact h) ?_
    repeat (first | with_reducible refine wpMask_pass ?_ | (refine wpMask_want (by rfl) (fun K hK => ?_); go_big_quiet_op; refine hK _ ?_; clear hK K))
    with_reducible refine wpMask_nil ?_
    refine region_call 29 (by kernel_rfl) rfl (by rfl) (by go_simp; exact ⟨rfl, rfl⟩) ?_   -- Go.Op.call { callee := Go.Callee.value (Go.Operand.func 12), args := #[Go.Operan
    refine (len_c hR5 m HB.out.symm).mono ?_
    rintro e _ ⟨rfl, rfl⟩
    refine ⟨_, rfl, Only.refl _ _, ?_⟩
    simp only [List.getElem_toArray, List.getElem_cons_zero, List.getElem_cons_succ, Act.put, List.setIfInBounds_toArray, List.set_cons_zero, List.set_cons_succ]
    refine region_seg [false, false, false, false, false, false, false, false, false, false, false, false, false, false, false, false, false, false, false, false, false, false, false, false, false, false, false, false, false, false, false, false, true, true, true, true, true, true, false, false, true, true] 5 (by kernel_rfl) (by kernel_rfl) (by kernel_rfl) rfl (fun _ _ d _ _ h => by cases d <;> exact h) ?_
    repeat (first | with_reducible refine wpMask_pass ?_ | (refine wpMask_want (by rfl) (fun K hK => ?_); go_big_quiet_op; refine hK _ ?_; clear hK K))
    with_reducible refine wpMask_nil ?_
    refine region_call 38 (by kernel_rfl) rfl (by rfl) (by go_simp; exact ⟨rfl, rfl⟩) ?_   -- Go.Op.call { callee := Go.Callee.value (Go.Operand.func 10), args := #[Go.Operan
    refine (peek_c hR5 (m : Int) m hm1.out).mono ?_
    rintro e w6 ⟨g3, rfl, hg3, hB6, hO6⟩
    refine ⟨_, rfl, hO6, ?_⟩
    have hB6' : Blk w6 g3 5 (vbs b) := by rw [List.take_of_length_le (by rw [HB.out]; omega)] at hB6; exact hB6
    have s4 := fun x : Later [] w6 => strAt_of (by have hb := hB6'.only x.h (by simp); have := Reads.of_blk hb 0 m (by rw [vbs_length, HB.out]; omega) hb.lt; rw [List.drop_zero, List.take_of_length_le (by rw [vbs_length, HB.out]; omega)] at this; exact this) m
    unfold StrAt at s4
    simp only [List.getElem_toArray, List.getElem_cons_zero, List.getElem_cons_succ, Act.put, List.setIfInBounds_toArray, List.set_cons_zero, List.set_cons_succ]
    refine region_seg [false, false, false, false, false, false, false, false, false, false, false, false, false, false, false, false, false, false, false, false, false, false, false, false, false, false, false, false, false, false, false, false, false, false, false, false, false, false, false, true, false, false, true, true, true] 0 (by kernel_rfl) (by kernel_rfl) (by kernel_rfl) rfl (fun _ _ d _ _ h => by cases d <;> exact h) ?_
    repeat (first | with_reducible refine wpMask_pass ?_ | (refine wpMask_want (by rfl) (fun K hK => ?_); go_big_quiet_op; refine hK _ ?_; clear hK K))
    with_reducible refine wpMask_nil ?_
    refine region_end (by kernel_rfl) ?_
    go_wp2
    go_ret
    refine ⟨rfl, only_nil_below ?_⟩
    exact ((hO1.join hO2 (by simp; omega)).trans (hO3.trans hO4)).drew.trans (hO5.trans hO6)

end Go.Proofs.Ytjlmmibokppkgaa
