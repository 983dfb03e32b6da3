/-
  The reference of layer 17: node, kind by kind (text, print, call, flush, others).
-/
import Derived.Test.YtpcapmdfjmpdiaaGreatDoorZMp14
namespace Go.Proofs.YtpcapmdfjmpdiaaGreatDoor
open Go.RowKit Go.BigFrame NT
set_option linter.unusedVariables false
set_option linter.unusedSimpArgs false
set_option maxRecDepth 100000
attribute [local go_sem ↓] sliced_cut

abbrev nV17 (t : NT) : Value := .agg #[.int .i64 t.k, .int .i64 t.a, .string t.s, .string t.p, .bool t.h, .bool t.e, .slice t.A t.b.length t.c, .slice t.B t.l.length t.d]
theorem info_ins17 : (Tryz.prog.info? 31).map (fun i => (i.zero, i.size, i.bytes)) = some (some (.agg #[.int .i64 0, .string ByteArray.empty, .string ByteArray.empty, .bool false, .int .i64 0, .int .i64 0]), 6, 64) := by kernel_rfl
theorem cells_ins17 : (Value.agg #[.int .i64 0, .string ByteArray.empty, .string ByteArray.empty, .bool false, .int .i64 0, .int .i64 0]).cells.size = 6 := by kernel_rfl
/-- A row of instructions of one's own. -/
def Ir (w w' : World) (A : Option Addr) (c : Nat) (l : List IN) : Prop := KRow w' 31 6 IN.cs A c l ∧ ∀ k, k ∈ rowT A → w.heap.size ≤ k
theorem Ir.only {w w1 w2 : World} {A : Option Addr} {c : Nat} {l : List IN} {S : List Nat} (h : Ir w w1 A c l) (ho : Only S w1 w2) (hS : ∀ k, k ∈ rowT A → k ∉ S) : Ir w w2 A c l := ⟨h.1.only ho hS, h.2⟩
theorem Ir.one {w w1 : World} (x : IN) (hw : w.heap.size ≤ w1.heap.size) : Ir w (w1.alloc (.cells #[.int .i64 (x.o : Nat), .string x.s, .string x.p, .bool x.h, .int .i64 (x.e : Nat), .int .i64 (x.t : Nat)] 31)) (some ⟨w1.heap.size, 0, none⟩) 1 [x] :=
  ⟨KRow.of_blk (l := [x]) (by rw [flat_one]; exact Blk.new w1 31 x.cs) IN.cs_len (by show 1 ≤ maxLen; decide), by rw [rowT_some]; simp; exact hw⟩
/-- One escaper is taken. -/
theorem Cm.took {r : Nat} {w : World} {N : Option Addr} {cn : Nat} {D : Option Addr} {cd : Nat} {E : Option Addr} {m ce : Nat} {ns : List ByteArray} {ads : List Nat} {e0 : Nat} {rest : List Nat} (h : Cm r w N cn D cd E m ce ns ads (e0 :: rest)) :
    Cm r (w.setCell ⟨r, 2, none⟩ (.slice (cutA ce 1 1 E) (m - 1) (ce - 1))) N cn D cd (cutA ce 1 1 E) (m - 1) (ce - 1) ns ads rest := by
  have hO : Only [r] w (w.setCell ⟨r, 2, none⟩ (.slice (cutA ce 1 1 E) (m - 1) (ce - 1))) := (Only.refl _ _).setCell (.inl (by simp)) _
  have hm : 1 ≤ m := by rw [h.rm]; simp
  have hcut := h.re.cut 1 hm
  have keep : ∀ {t : TypeId} {A : Option Addr} {n c : Nat} {xs : List Value}, t ≠ 114 → RowAt w t A n c xs → RowAt (w.setCell ⟨r, 2, none⟩ (.slice (cutA ce 1 1 E) (m - 1) (ce - 1))) t A n c xs := fun ht hr =>
    hr.only hO (fun k hk hm => by rw [List.mem_singleton] at hm; subst hm; exact hr.ne_blk h.blk (fun e => ht e.symm) hk)
  refine ⟨by have := h.blk.set_ 2 (.slice (cutA ce 1 1 E) (m - 1) (ce - 1)); simpa using this, keep (by decide) h.rn, keep (by decide) h.ra, keep (by decide) hcut, ?_⟩
  rw [h.rm]; simp
theorem Bel.drew16 (w : World) : Bel w w.drew := (Below.refl _ _).drew
section
variable {r : Nat} {w : World} {N : Option Addr} {cn : Nat} {D : Option Addr} {cd : Nat} {E : Option Addr} {m ce : Nat} {ns : List ByteArray} {ads es : List Nat}
abbrev wN (w : World) (x : NT) : World := w.alloc (.cells #[.int .i64 x.k, .int .i64 x.a, .string x.s, .string x.p, .bool x.h, .bool x.e, .slice x.A x.b.length x.c, .slice x.B x.l.length x.d] 69)
end
end Go.Proofs.YtpcapmdfjmpdiaaGreatDoor
