/-
  The reference of layer 16: List, and node at every node.
-/
import Derived.Test.YtpcapmdfjmpdiaaGreatDoorZRn16
import Derived.Test.YtpcapmdfjmpdiaaGreatDoorZHw15
import Derived.Test.YtpcapmdfjmpdiaaGreatDoorZPl12
import Derived.Test.YtpcapmdfjmpdiaaGreatDoorZRegion2
namespace Go.Proofs.YtpcapmdfjmpdiaaGreatDoor
open Go.RowKit Go.BigFrame NT
set_option linter.unusedVariables false
set_option linter.unusedSimpArgs false
set_option maxRecDepth 100000

theorem RsQ.only {r : IR} {a0 : Int} {w w1 w2 : World} {t : HS} {A : Option Addr} {n c : Nat} {a k : Int} {g : Nat} {T : TypeId} {cs : List Value} (h : RsQ r a0 w w1 t A n c a k) (hB : Blk w1 g T cs) (hT : T ≠ 3) (hO : Only [g] w1 w2) : RsQ r a0 w w2 t A n c a k := by
  cases r with
  | ok s es => exact ⟨h.1, h.2.1, h.2.2.1, h.2.2.2.only hO (fun k hk hm => by rw [List.mem_singleton] at hm; subst hm; exact h.2.2.2.blk hB hT hk)⟩
  | no a' k' => exact h
/-- The state of the loop. -/
structure RlAt (w wr : World) (S : HS) (B : Option Addr) (q d : Nat) (done : List Nat) : Prop where
  res : Blk wr (w.heap.size + 1) 155 z7
  out : Blk wr (w.heap.size + 1 + 1) 155 (rsC S B q d 0 0)
  es : Es w wr B q d done
  bel : Bel w wr
theorem RlAt.later {w wr w2 : World} {S : HS} {B : Option Addr} {q d : Nat} {done : List Nat} (h : RlAt w wr S B q d done) (hb : Bel wr w2) : RlAt w w2 S B q d done := ⟨h.res.belh hb, h.out.belh hb, h.es.later hb, h.bel.trans hb⟩
theorem RlAt.start (w : World) (s : HS) (o : Obj) : RlAt w (((w.alloc o).alloc (.cells #[.int .i64 0, .string ⟨#[]⟩, .string ⟨#[]⟩, .string ⟨#[]⟩, .slice none 0 0, .int .i64 0, .int .i64 0] 155)).alloc (.cells #[.int .i64 (s.c : Nat), .string (ofL s.n), .string (ofL s.a), .string (ofL s.p), .slice none 0 0, .int .i64 0, .int .i64 0] 155)) s none 0 0 [] := by
  refine ⟨(blk_at1h w o 155 z7).alloc _, ?_, Es.nil _ _, ((Bel.alloc _ _).trans (Bel.alloc _ _)).trans (Bel.alloc _ _)⟩
  have := blk_at1h (w.alloc o) (.cells #[.int .i64 0, .string ⟨#[]⟩, .string ⟨#[]⟩, .string ⟨#[]⟩, .slice none 0 0, .int .i64 0, .int .i64 0] 155) 155 (rsC s none 0 0 0 0)
  rw [show (w.alloc o).heap.size = w.heap.size + 1 by simp] at this
  exact this
end Go.Proofs.YtpcapmdfjmpdiaaGreatDoor
