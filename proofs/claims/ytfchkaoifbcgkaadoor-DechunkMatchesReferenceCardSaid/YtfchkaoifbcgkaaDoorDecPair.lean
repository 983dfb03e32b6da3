/-
  A decoder beside another thing: its calls.
-/
import Derived.Test.YtfchkaoifbcgkaaDoorDechLaw
namespace Go.Proofs.YtfchkaoifbcgkaaDoor
open Go.RowKit Go.BigFrame
set_option linter.unusedVariables false

theorem Tabs.below {w w' : World} {B : Nat} (h : Tabs w) (hb : Below B w w') (hB : w.heap.size ≤ B) : Tabs w' := h.only (show Only [] w w' from ⟨hb.os, hb.tape, hb.output, hb.size, fun k hk _ => hb.block k (Nat.lt_of_lt_of_le hk hB)⟩)
section
variable {Q : World → List Nat → Prop} {w0 W W' : World} {B r : Nat} {s s' : DSt} {o e o' e' : Nat}
theorem feed_pair (hQ : IsThing Q) (h : Pair (Dc r s o e) Q w0 B W) (hT : Tabs w0) (hG : Good s o) {X : Option Addr} {m d : Nat} {b : List UInt8} (hb : Reads W w0.heap.size X m (vbs b)) (hmd : m ≤ d) (hdm : d ≤ maxLen) (ho : o + m ≤ 1000000) (hfe : feedS s o e b = (s', o', e')) :
    Calls Tryd.prog 8 #[.pointer (some ⟨r, 0, none⟩), .slice X m d] W fun x w' => x = .returned (.int .i64 e') ∧ Pair (Dc r s' o' e') Q w0 B w' :=
  pair_call1 h hQ fun T hF hTw => feed_c hF (hT.below h.below (Nat.le_refl _)) (TabFar.new hT (Nat.le_refl _) hTw) hG hb h.below.size (apart_of hb hTw) hmd hdm ho hfe
theorem payd_pair (h : Pair (Dc r s o e) Q w0 B W) (hG : Good s o) (ho : o ≤ 1000000) (n : Nat) (hn : n = s.pay.length) :
    Calls Tryd.prog 9 #[.pointer (some ⟨r, 0, none⟩)] W fun x w' => ∃ G d, x = .returned (.slice G n d) ∧ RowAt w' 5 G n d (vbs s.pay) ∧ (∀ k, k ∈ rowT G → W.heap.size ≤ k) ∧ Only [] W w' := by
  obtain ⟨T, hF, _⟩ := h.first
  exact payd_c hF hG ho n hn
theorem sized_pair (h : Pair (Dc r s o e) Q w0 B W) (hG : Good s o) (ho : o ≤ 1000000) (n : Nat) (hn : n = s.sizes.length) :
    Calls Tryd.prog 10 #[.pointer (some ⟨r, 0, none⟩)] W fun x w' => ∃ G d, x = .returned (.slice G n d) ∧ RowAt w' 3 G n d (vis (nats s.sizes)) ∧ (∀ k, k ∈ rowT G → W.heap.size ≤ k) ∧ Only [] W w' := by
  obtain ⟨T, hF, _⟩ := h.first
  exact sized_c hF hG ho n hn
theorem whole_pair (h : Pair (Dc r s o e) Q w0 B W) (b : Bool) (hb : b = s.whole) :
    Calls Tryd.prog 11 #[.pointer (some ⟨r, 0, none⟩)] W fun x w' => x = .returned (.bool b) ∧ W = w' := by
  obtain ⟨T, hF, _⟩ := h.first
  exact whole_c hF b hb
theorem complete_pair (h : Pair (Dc r s o e) Q w0 B W) (b : Bool) (hb : b = s.complete) :
    Calls Tryd.prog 12 #[.pointer (some ⟨r, 0, none⟩)] W fun x w' => x = .returned (.bool b) ∧ W = w' := by
  obtain ⟨T, hF, _⟩ := h.first
  exact complete_c hF b hb
theorem offset_pair (h : Pair (Dc r s o e) Q w0 B W) :
    Calls Tryd.prog 13 #[.pointer (some ⟨r, 0, none⟩)] W fun x w' => x = .returned (.int .i64 o) ∧ W = w' := by
  obtain ⟨T, hF, _⟩ := h.first
  exact offset_c hF
end
end Go.Proofs.YtfchkaoifbcgkaaDoor
