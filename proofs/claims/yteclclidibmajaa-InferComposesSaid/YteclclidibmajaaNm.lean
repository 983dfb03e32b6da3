/-
  Nodes in a memory that grows; a node's eight cells as rules of the walk.
-/
import Derived.Test.YteclclidibmajaaSplit11
import Derived.Test.YteclclidibmajaaNpure
namespace Go.Proofs.Yteclclidibmajaa
open Go.RowKit Go.BigFrame
set_option linter.unusedVariables false
namespace NT
/-- All of it is there. -/
abbrev Lt (w : World) : Nat → Prop := fun g => g < w.heap.size
theorem Row.bel {w w' : World} {A : Option Addr} {c : Nat} {l : List NT} (h : Row w (Lt w) A c l) (hb : Bel w w') : Row w' (Lt w') A c l :=
  h.same (fun _ hg => Nat.lt_of_lt_of_le hg hb.size) fun g p hg => hb.cell hg
theorem In.bel {w w' : World} {t : NT} (h : t.In w (Lt w)) (hb : Bel w w') : t.In w' (Lt w') :=
  h.same (fun _ hg => Nat.lt_of_lt_of_le hg hb.size) fun g p hg => hb.cell hg
/-- A node of a row, in whatever later world. -/
theorem Row.cells {w : World} {A : Option Addr} {c : Nat} {l : List NT} (h : Row w (Lt w) A c l) {i : Nat} {x : NT} (hx : l[i]? = some x) :
    ∃ g o, A = some ⟨g, o, none⟩ ∧ g < w.heap.size ∧ ∀ W, Bel w W → W.cell? ⟨g, o + i * 8, none⟩ = some (.int .i64 x.k) ∧ W.cell? ⟨g, o + i * 8 + 1, none⟩ = some (.int .i64 x.a) ∧ W.cell? ⟨g, o + i * 8 + 2, none⟩ = some (.string x.s) ∧ W.cell? ⟨g, o + i * 8 + 3, none⟩ = some (.string x.p) ∧
      W.cell? ⟨g, o + i * 8 + 4, none⟩ = some (.bool x.h) ∧ W.cell? ⟨g, o + i * 8 + 5, none⟩ = some (.bool x.e) ∧ W.cell? ⟨g, o + i * 8 + 6, none⟩ = some (.slice x.A x.b.length x.c) ∧ W.cell? ⟨g, o + i * 8 + 7, none⟩ = some (.slice x.B x.l.length x.d) := by
  obtain ⟨g, o, e1, hg, hc, _⟩ := h.at_ hx
  refine ⟨g, o, e1, hg, fun W hb => ?_⟩
  exact (hc.same (w' := W) fun p => hb.cell hg).all
theorem Row.len {w : World} {Q : Nat → Prop} {A : Option Addr} {c : Nat} {l : List NT} (h : Row w Q A c l) : l.length ≤ 1353245080300 := by
  have := h.1.1.2.2
  unfold reachBytes at this
  omega
/-- A block that holds a node. -/
theorem cells8 {w : World} {g : Nat} {T : TypeId} {a0 a1 a2 a3 a4 a5 a6 a7 : Value} (h : Blk w g T [a0, a1, a2, a3, a4, a5, a6, a7]) :
    w.cell? ⟨g, 0, none⟩ = some a0 ∧ w.cell? ⟨g, 1, none⟩ = some a1 ∧ w.cell? ⟨g, 2, none⟩ = some a2 ∧ w.cell? ⟨g, 3, none⟩ = some a3 ∧ w.cell? ⟨g, 4, none⟩ = some a4 ∧ w.cell? ⟨g, 5, none⟩ = some a5 ∧ w.cell? ⟨g, 6, none⟩ = some a6 ∧ w.cell? ⟨g, 7, none⟩ = some a7 :=
  ⟨h.cell 0, h.cell 1, h.cell 2, h.cell 3, h.cell 4, h.cell 5, h.cell 6, h.cell 7⟩
end NT
theorem blk_at1 (w : World) (o : Obj) (T : TypeId) (L : List Value) : Blk ((w.alloc o).alloc (.cells L.toArray T)) (w.heap.size + 1) T L := by
  have := Blk.new (w.alloc o) T L
  rwa [show (w.alloc o).heap.size = w.heap.size + 1 by simp] at this
theorem Blk.bel {w w' : World} {g : Nat} {t : TypeId} {cs : List Value} (h : Blk w g t cs) (hb : Bel w w') : Blk w' g t cs := h.below hb h.lt
end Go.Proofs.Yteclclidibmajaa
