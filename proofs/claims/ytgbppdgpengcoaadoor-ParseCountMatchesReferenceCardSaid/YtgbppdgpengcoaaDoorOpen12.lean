/-
  The frame's need of this stage: a slice of nodes that came in; the law of Count at it.
-/
import Derived.Test.YtgbppdgpengcoaaDoorCl12
import Derived.Test.YtgbppdgpengcoaaDoorNo
import Derived.HandedShaped
namespace Go.Proofs.YtgbppdgpengcoaaDoor
open Go.Joins Go.ChangeShapes Go.WideShapes Go.Deep Go.RowKit

/-- Nodes that came in. -/
def CameN (w : World) (A : Option Addr) (n c : Nat) (l : List NT) : Prop := l.length = n ∧ NT.Row w (NT.Lt w) A c l
set_option maxRecDepth 100000 in
theorem open_T23 {H : Type} {enc : TypeId × Value → H} {w : World} {a : Option Addr} {len cap : Nat} {d : DataW H} {p : List MemPlace}
    (h : DataW.Trod enc Tryd.prog w 0 (fun _ => true) true 23 (.slice a len cap) d p) (hz : ∀ n, n ∈ d.weights Tryd.prog 23 → n ≤ reachBytes) : ∃ x : List NT, CameN w a len cap x := by
  obtain ⟨fuel, hf⟩ := h
  have hf' : DataW.trod enc Tryd.prog w 0 (fun _ => true) true fuel 23 [.slice a len cap] = some (d, p) := hf
  obtain ⟨A, c, l, e, hr⟩ := NT.row_of_trod (V := 36) Tryd.underlying36 (by kernel_rfl) (by kernel_rfl) (of_decide_eq_true (by kernel_rfl)) Tryd.underlying3 Tryd.underlying3 Tryd.underlying9 Tryd.underlying9 Tryd.underlying4 Tryd.underlying4 Tryd.underlying23 Tryd.underlying23 Tryd.underlying23 hf' hz
  injection e with e1 e2 e3
  subst e1 e2 e3
  exact ⟨l, rfl, hr⟩
theorem cntLaw2 (A : Option Addr) (n c : Nat) (l : List NT) (w : World) (hT : MX w) (h : CameN w A n c l) :
    Calls Tryd.prog 4 #[.slice A n c] w fun e w' => e = .returned (.bool true) ∧ Below w.heap.size w w' := by
  obtain ⟨rfl, hr⟩ := h
  exact cntLaw A c l w hT hr
end Go.Proofs.YtgbppdgpengcoaaDoor
