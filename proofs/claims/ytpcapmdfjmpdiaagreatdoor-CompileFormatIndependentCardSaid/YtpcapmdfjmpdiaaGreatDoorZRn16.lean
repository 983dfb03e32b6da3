/-
  The reference of layer 16: node, kind by kind.
-/
import Derived.Test.YtpcapmdfjmpdiaaGreatDoorZPl12
import Derived.Test.YtpcapmdfjmpdiaaGreatDoorZHt15
namespace Go.Proofs.YtpcapmdfjmpdiaaGreatDoor
open Go.RowKit Go.BigFrame NT
set_option linter.unusedVariables false
set_option linter.unusedSimpArgs false
set_option maxRecDepth 100000

/-- The four blocks that node starts with: the state, the node, the result, r. -/
structure Nd0 (w w1 : World) (s : HS) (x : NT) (S4 : List Value) (R4 : List Value) : Prop where
  b0 : Blk w1 w.heap.size 153 (sC s)
  b1 : Blk w1 (w.heap.size + 1) 69 x.cs
  b2 : Blk w1 (w.heap.size + 1 + 1) 155 S4
  b3 : Blk w1 (w.heap.size + 1 + 1 + 1) 155 R4
  bel : Bel w w1
abbrev z7 : List Value := [.int .i64 0, .string ⟨#[]⟩, .string ⟨#[]⟩, .string ⟨#[]⟩, .slice none 0 0, .int .i64 0, .int .i64 0]
abbrev w4 (w : World) (s : HS) (x : NT) : World := (((w.alloc (.cells #[.int .i64 (s.c : Nat), .string (ofL s.n), .string (ofL s.a), .string (ofL s.p)] 153)).alloc (.cells #[.int .i64 x.k, .int .i64 x.a, .string x.s, .string x.p, .bool x.h, .bool x.e, .slice x.A x.b.length x.c, .slice x.B x.l.length x.d] 69)).alloc (.cells #[.int .i64 0, .string ⟨#[]⟩, .string ⟨#[]⟩, .string ⟨#[]⟩, .slice none 0 0, .int .i64 0, .int .i64 0] 155)).alloc (.cells #[.int .i64 (s.c : Nat), .string (ofL s.n), .string (ofL s.a), .string (ofL s.p), .slice none 0 0, .int .i64 x.a, .int .i64 0] 155)
theorem Nd0.later {w w1 w2 : World} {s : HS} {x : NT} {S R : List Value} (h : Nd0 w w1 s x S R) (hb : Bel w1 w2) : Nd0 w w2 s x S R := ⟨h.b0.belh hb, h.b1.belh hb, h.b2.belh hb, h.b3.belh hb, h.bel.trans hb⟩
theorem Nd0.set {w w1 : World} {s : HS} {x : NT} {S R : List Value} (h : Nd0 w w1 s x S R) (j : Nat) (v : Value) : Nd0 w (w1.setCell ⟨w.heap.size + 1 + 1 + 1, j, none⟩ v) s x S (R.set j v) :=
  have hO : Only [w.heap.size + 1 + 1 + 1] w1 (w1.setCell ⟨w.heap.size + 1 + 1 + 1, j, none⟩ v) := (Only.refl _ w1).setCell (.inl (by simp)) _
  ⟨h.b0.only hO (by simp; omega), h.b1.only hO (by simp), h.b2.only hO (by simp), h.b3.set_ j v, bel_on1 h.bel hO (by omega)⟩
end Go.Proofs.YtpcapmdfjmpdiaaGreatDoor
