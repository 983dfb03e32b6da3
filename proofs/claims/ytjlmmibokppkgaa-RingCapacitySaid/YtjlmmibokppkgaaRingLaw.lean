/-
  The example of the chapter on ring, walked: 'alive' returns true.
-/
import Derived.Test.YtjlmmibokppkgaaRing
import Derived.Test.YtjlmmibokppkgaaFrame
namespace Go.Proofs.Ytjlmmibokppkgaa
open Go.RowKit
attribute [local go_sem ↓] sliced_cut run_min2 run_max2
attribute [local go_sem] cutA_zero

set_option maxHeartbeats 400000 in
theorem alive_any (w : World) :
    Calls Try.prog 16 #[] w fun e w' => e = .returned (.bool true) ∧ Only [] w w' := by
  have kc := fun (w : World) (C : Array Value) (n c : Nat) => Lib.run_convert_bytes_const (P := Try.prog) w 25 5 C n c Try.underlying25 Try.underlying5
  go_enter Try.func16, Try.ntmps16
  go_wp2_with fail
  refine (new_any 3 (by omega) (by omega) _).mono ?_
  rintro e w1 ⟨r, bb, rfl, hr, hbb, hR1, hO1⟩
  go_wp2_with fail
  have hb1 := Reads.fresh w1 [97, 98, 99, 100] #[.int .u8 97, .int .u8 98, .int .u8 99, .int .u8 100] (by rfl) 5 (4, 5) (w1.heap.size + 1) (by omega)
  refine (put_any (hR1.alloc _) (b := [97, 98, 99, 100]) (by simpa using hb1) (fun _ ad e => by injection e with e; subst e; have := hR1.body.lt; simp; omega) (by omega) (by decide) 3 (by decide)).mono ?_
  rintro e w2 ⟨rfl, hR2, hO2⟩
  go_wp2_with fail
  refine (consume_any hR2 2 (by omega) (by decide)).mono ?_
  rintro e w3 ⟨rfl, hR3, hO3⟩
  go_wp2_with fail
  have hb2 := Reads.fresh w3 [100, 101] #[.int .u8 100, .int .u8 101] (by rfl) 5 (2, 3) (w3.heap.size + 1) (by omega)
  refine (put_any (hR3.alloc _) (b := [100, 101]) (by simpa using hb2) (fun _ ad e => by injection e with e; subst e; have := hR3.body.lt; simp; omega) (by omega) (by decide) 2 (by decide)).mono ?_
  rintro e w4 ⟨rfl, hR4, hO4⟩
  go_wp2_with fail
  refine (peek_any hR4 9 3 (by decide)).mono ?_
  rintro e w5 ⟨g, rfl, hg, hB5, hO5⟩
  have hcv := run_string_of (P := Try.prog) (src := 25) (dst := 9) Try.underlying25 Try.underlying5 Try.underlying9 (l := [99, 100, 101]) (A := some ⟨g, 0, none⟩) (n := 3)
    (Reads.of_blk hB5 0 3 (by decide) hB5.lt) 3
  go_wp2_with fail
  go_ret
  refine ⟨rfl, ?_⟩
  have a1 := hO1.alloc (.cells #[.int .u8 97, .int .u8 98, .int .u8 99, .int .u8 100] 5 (4, 5))
  have a2 := a1.join hO2 (by simp; omega)
  have a3 := (a2.join hO3 (by simp; omega)).alloc (.cells #[.int .u8 100, .int .u8 101] 5 (2, 3))
  exact (a3.join hO4 (by simp; omega)).join hO5 (by simp)

theorem only_nil_below {w w' : World} (h : Only [] w w') : Below w.heap.size w w' := h.to_below (Nat.le_refl _) (by simp)

/-! ### RingCapacity -/
set_option maxHeartbeats 400000 in
theorem capacity_walk (n : Int) (w : World) (_ : (Lit.int .i64 n).wf = true) :
    Calls Try.prog 4 #[.int .i64 n] w fun e w' => e = .returned (.bool true) ∧ Below w.heap.size w w' := by
  by_cases h : n < 1 ∨ 65536 < n
  · have h3 : n < 1 ∨ (1 ≤ n ∧ 65536 < n) := by omega
    have hbad := new_bad n h
    clear h
    rcases h3 with h1 | ⟨h0, h1⟩
    all_goals
      go_enter Try.func4, Try.ntmps4
      go_wp2_with fail
      refine (hbad _).mono ?_
      rintro e w1 ⟨rfl, rfl⟩
      go_wp2_with (go_at_call 16; refine (alive_any _).mono ?_; rintro e w2 ⟨rfl, hO2⟩)
      go_ret
      exact ⟨rfl, only_nil_below hO2⟩
  · have h1 : 1 ≤ n := by omega
    have h2 : n ≤ 65536 := by omega
    go_enter Try.func4, Try.ntmps4
    go_wp2_with fail
    refine (new_any n h1 h2 _).mono ?_
    rintro e w1 ⟨r, bb, rfl, hr, hbb, hR1, hO1⟩
    go_wp2_with (first
      | (go_at_call 16; refine (alive_any _).mono ?_; rintro e w2 ⟨rfl, hO2⟩; have hR2 := hR1.only hO2 (by simp) (by simp))
      | (go_at_call 12; refine (len_any hR2).mono ?_; rintro e w' ⟨rfl, rfl⟩)
      | (go_at_call 14; refine (cap_any hR2).mono ?_; rintro e w' ⟨rfl, rfl⟩)
      | (go_at_call 13; refine (free_any hR2 n.toNat (by omega)).mono ?_; rintro e w' ⟨rfl, rfl⟩))
    go_ret
    exact ⟨rfl, (only_nil_below hO1).trans ((only_nil_below hO2).mono hO1.size)⟩

end Go.Proofs.Ytjlmmibokppkgaa
