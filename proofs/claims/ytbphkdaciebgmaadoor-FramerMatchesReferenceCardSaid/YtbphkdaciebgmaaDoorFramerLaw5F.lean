/-
  What the frame of FramerMatchesReference needs: the slice of calls, opened.
-/
import Derived.Test.YtbphkdaciebgmaaDoorFramerLaw5
namespace Go.Proofs.YtbphkdaciebgmaaDoor
open Go.ChangeShapes Go.WideShapes Go.RowKit

theorem open_T22 {H : Type} {enc : TypeId × Value → H} {w : World} {a : Option Addr} {len cap : Nat} {d : DataW H} {p : List MemPlace}
    (h : DataW.Trod enc Tryd.prog w 0 (fun _ => true) true 22 (.slice a len cap) d p) : ∃ acts, len ≤ cap ∧ cap ≤ maxLen ∧ ActsAt w w.heap.size a len acts := by
  obtain ⟨h1, h2, acts, h3⟩ := acts_of_trod Tryd.underlying22 Tryd.underlying32 (by kernel_rfl) (by kernel_rfl) Tryd.underlying3 Tryd.underlying26 Tryd.underlying5 (by kernel_rfl) Tryd.underlying3 h
  exact ⟨acts, h1, h2, h3⟩
end Go.Proofs.YtbphkdaciebgmaaDoor
