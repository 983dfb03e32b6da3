/-
  Within a region that draws its order: one of several operations that may come up; an append onto a slice of the call's own at any place of its block.
-/
import Derived.Test.YteclclidibmajaaCuts
import Derived.Test.YteclclidibmajaaRegion
namespace Go.Proofs.Yteclclidibmajaa
open Go.RowKit

/-- Blocks that were not there at the start need not be named. -/
theorem Only.shed {S T : List Nat} {w w' : World} (h : Only T w w') (hT : ∀ i, i ∈ T → i ∈ S ∨ w.heap.size ≤ i) : Only S w w' := (Only.refl S w).join h hT

section
variable {P : Program} {ops : Array Oper} {Q : Exit → Act → World → Prop}
/-- One of several that may come up: it makes a value. -/
theorem op_make {T : List Nat} {e : Nat} {listed : Array Bool} {fuel : Nat} {a : Act} {w w1 : World} {o : Oper} {v : Value}
    (ho : ops[e]? = some o) (hw : Region.wanted o (yielded ops a.tmps) = true) (hrun : (execOp a.eval o).run P w = .ok (.value v) w1) (hO : Only T w w1)
    (h : wpAnyH P .any ops Q (Only T w1) fuel (listed.setIfInBounds e true) (a.put o.dst v) w1) :
    wpOp P ops Q e (fun a' w' => Only T w w' ∧ wpAnyH P .any ops Q (Only T w) fuel (listed.setIfInBounds e true) a' w') a w := by
  unfold wpOp
  simp only [ho, hw, if_true]
  refine .inl ?_
  unfold Oper.wp
  rw [hrun]
  simp only [Oper.upon]
  exact ⟨hO, wpAnyH_mono (fun w2 h2 => hO.trans h2) _ _ _ _ h⟩
theorem exec_append {w w' : World} {s x : Operand} {t : TypeId} {o : Oper} {a : Act} {v v' : Value} {A : Option Addr} {m c : Nat} (ho : o.op = .call { callee := .builtin .append, args := #[s, x], argTypes := #[t, t] })
    (hs : a.eval s = v) (hx : a.eval x = .slice A m c) (hrun : (Builtin.append_ #[t, t] o.type #[v, .slice A m c]).run P w = .ok v' w') : (execOp a.eval o).run P w = .ok (.value v') w' := by
  unfold execOp
  simp only [ho, resolve, invoke, builtin, Sem.run_bind, Sem.run_pure, Result.andThen_ok, List.map_toArray, List.map_cons, List.map_nil, hs, hx, hrun]
/-- An append within a region, nothing else may come up. -/
theorem region_rowAppend {T : List Nat} (k : Nat) {listed : Array Bool} {fuel : Nat} {a : Act} {w : World} {o : Oper} (hr : Region.ready .any ops listed = [k])
    (ho : ops[k]? = some o) (hw : Region.wanted o (yielded ops a.tmps) = true) (s x : Operand) (t : TypeId) (hop : o.op = .call { callee := .builtin .append, args := #[s, x], argTypes := #[t, t] })
    (e : TypeId) (i : TypeInfo) (z : Value) (bytes : Nat) (ht : P.underlying t = some (.slice e)) (hi : P.info? e = some i) (hz : i.zero = some z)
    (hsize : i.size = 1) (hby : i.bytes = bytes) (hzs : z.cells.size = 1) (A : Option Addr) (n c : Nat) (xs : List Value) (hs : a.eval s = .slice A n c) (hA : RowAt w e A n c xs)
    (B : Nat) (X : Option Addr) (m d : Nat) (news : List Value) (hx : a.eval x = .slice X m d) (hrd : Reads w B X m news) (h1 : ∀ u ∈ news, u.oneCell' = true)
    (h63 : n + m ≤ maxLen) (hbytes : (n + m) * bytes ≤ 140737488355328) (N : Nat) (hN : N = n + m) (hT : ∀ g, g ∈ rowT A → g ∈ T)
    (h : ∀ A' c' w', Hid (RowAt w' e A' N c' (xs ++ news)) → Only (rowT A) w w' → Hid (∀ k, k ∈ rowT A' → k ∈ rowT A ∨ w.heap.size ≤ k) → Only T w w' →
      wpAnyH P .any ops Q (Only T w') fuel (listed.setIfInBounds k true) (a.put o.dst (.slice A' N c')) w') :
    wpAnyH P .any ops Q (Only T w) (fuel + 1) listed a w := by
  subst hN
  obtain ⟨A', c', w', hrun, h2, h3, h4⟩ := row_append (P := P) o.type ht hi hz hsize hby hzs hA d hrd h1 h63 hbytes
  exact region_make k hr ho hw (exec_append hop hs hx hrun) (h3.more hT) (h A' c' w' h2 h3 h4 (h3.more hT))
/-- An append within a region, nothing else may come up; a new block is the next. -/
theorem region_rowAppend_at {T : List Nat} (k : Nat) {listed : Array Bool} {fuel : Nat} {a : Act} {w : World} {o : Oper} (hr : Region.ready .any ops listed = [k])
    (ho : ops[k]? = some o) (hw : Region.wanted o (yielded ops a.tmps) = true) (s x : Operand) (t : TypeId) (hop : o.op = .call { callee := .builtin .append, args := #[s, x], argTypes := #[t, t] })
    (e : TypeId) (i : TypeInfo) (z : Value) (bytes : Nat) (ht : P.underlying t = some (.slice e)) (hi : P.info? e = some i) (hz : i.zero = some z)
    (hsize : i.size = 1) (hby : i.bytes = bytes) (hzs : z.cells.size = 1) (A : Option Addr) (n c : Nat) (xs : List Value) (hs : a.eval s = .slice A n c) (hA : RowAt w e A n c xs)
    (B : Nat) (X : Option Addr) (m d : Nat) (news : List Value) (hx : a.eval x = .slice X m d) (hrd : Reads w B X m news) (h1 : ∀ u ∈ news, u.oneCell' = true)
    (h63 : n + m ≤ maxLen) (hbytes : (n + m) * bytes ≤ 140737488355328) (N : Nat) (hN : N = n + m) (hT : ∀ g, g ∈ rowT A → g ∈ T)
    (h : ∀ A' c' w', Hid (RowAt w' e A' N c' (xs ++ news)) → Only (rowT A) w w' → Hid (∀ k, k ∈ rowT A' → k ∈ rowT A ∨ k = w.heap.size) → Only T w w' →
      wpAnyH P .any ops Q (Only T w') fuel (listed.setIfInBounds k true) (a.put o.dst (.slice A' N c')) w') :
    wpAnyH P .any ops Q (Only T w) (fuel + 1) listed a w := by
  subst hN
  obtain ⟨A', c', w', hrun, h2, h3, h4⟩   := row_append_at (P := P) o.type ht hi hz hsize hby hzs hA d hrd h1 h63 hbytes
  exact region_make k hr ho hw (exec_append hop hs hx hrun) (h3.more hT) (h A' c' w' h2 h3 h4 (h3.more hT))
end

end Go.Proofs.Yteclclidibmajaa
