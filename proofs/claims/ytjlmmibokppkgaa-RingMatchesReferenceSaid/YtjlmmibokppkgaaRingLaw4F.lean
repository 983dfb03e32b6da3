/-
  What the frame of RingMatchesReference needs: the slice of calls, opened.
-/
import Derived.Test.YtjlmmibokppkgaaRingLaw4
namespace Go.Proofs.Ytjlmmibokppkgaa
open Go.ChangeShapes Go.WideShapes Go.RowKit

theorem open_T22 {H : Type} {enc : TypeId × Value → H} {w : World} {a : Option Addr} {len cap : Nat} {d : DataW H} {p : List MemPlace}
    (h : DataW.Trod enc Try.prog w 0 (fun _ => true) true 22 (.slice a len cap) d p) : ∃ acts, len ≤ cap ∧ cap ≤ maxLen ∧ ActsAt w w.heap.size a len acts := by
  obtain ⟨h1, h2, acts, h3⟩ := acts_of_trod Try.underlying22 Try.underlying39 (by kernel_rfl) (by kernel_rfl) Try.underlying3 Try.underlying25 Try.underlying5 (by kernel_rfl) Try.underlying3 h
  exact ⟨acts, h1, h2, h3⟩

theorem matches_walk (n : Int) (X : Option Addr) (len cap : Nat) (acts : List ActV) (w : World) (_ : (Lit.int .i64 n).wf = true) (h : len ≤ cap ∧ cap ≤ maxLen ∧ ActsAt w w.heap.size X len acts) :
    Calls Try.prog 3 #[.int .i64 n, .slice X len cap] w fun e w' => e = .returned (.bool true) ∧ Below w.heap.size w w' :=
  match_walk n X len cap acts w h.2.2 h.1 h.2.1

end Go.Proofs.Ytjlmmibokppkgaa
