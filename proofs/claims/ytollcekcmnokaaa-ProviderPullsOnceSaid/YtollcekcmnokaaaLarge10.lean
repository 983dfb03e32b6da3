/-
  Contract: the laws' TooLarge.
-/
import Derived.Test.YtollcekcmnokaaaNew10
namespace Go.Proofs.Ytollcekcmnokaaa
open Go.RowKit Go.BigFrame
set_option linter.unusedVariables false
set_option linter.unusedSimpArgs false

set_option maxHeartbeats 1000000 in
theorem tooLarge10_c (F : Option Addr) (d : Nat) (ks : List ByteArray) (vs : List VT) (L : Value) (n lc : Nat) (LA : Option Addr) (w : World) (hI : (mapT F d ks vs).In w (· < w.heap.size)) (hn : n ≤ 4611686018427387904) :
    Calls Try.prog 8 #[.slice F vs.length d, .slice LA n lc] w fun e w' => ∃ r : Int, 0 ≤ r ∧ r ≤ 1 ∧ e = .returned (.int .i64 r) ∧ Bel w w' ∧ (r ≤ 0 → vs.length ≤ 100 ∧ n ≤ 100) := by
  have hby : vs.length * 104 ≤ 140737488351232 := hI.bytes.2
  have HC := Lib.hid (fun (W : World) (hb : Bel w W) => show Calls Try.prog 20 #[.agg #[.int .i64 4, .string ByteArray.empty, .int .i64 0, .bool false, .slice none 0 0, .slice F vs.length d]] W _ from tooLarge_c (mapT F d ks vs) W (hI.bel hb))
  clear hI
  obtain ⟨m, hm⟩ : ∃ m, m = vs.length := ⟨_, rfl⟩
  rw [← hm] at hby HC ⊢
  clear hm
  by_cases h1 : 100 < m
  · go_enter Try.func8, Try.ntmps8
    go_wp2_with fail
    go_ret
    exact ⟨1, by omega, by omega, rfl, Bel.refl _, fun h => by omega⟩
  · by_cases h2 : 100 < n
    · go_enter Try.func8, Try.ntmps8
      go_wp2_with fail
      go_ret
      exact ⟨1, by omega, by omega, rfl, Bel.refl _, fun h => by omega⟩
    · go_enter Try.func8, Try.ntmps8
      go_wp2_with (go_at_call 20; refine (HC.out _ (Bel.refl _)).mono ?_; rintro e w1 ⟨hcase, hb⟩; have HB := Lib.hid hb; clear hb; have hr : ∃ r : Int, 0 ≤ r ∧ r ≤ 1 ∧ e = .returned (.int .i64 r) := (by rcases hcase with h | h; exact ⟨0, by omega, by omega, h⟩; exact ⟨1, by omega, by omega, h⟩); obtain ⟨r, hr0, hr1, rfl⟩ := hr; clear hcase)
      go_ret
      exact ⟨r, hr0, hr1, rfl, HB.out, fun _ => ⟨by omega, by omega⟩⟩
end Go.Proofs.Ytollcekcmnokaaa
