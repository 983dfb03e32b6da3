/-
  Contracts: kindsByForm, formOf.
-/
import Derived.Test.YteclclidibmajaaMap11
import Derived.Test.YteclclidibmajaaLxy
import Derived.Test.YteclclidibmajaaWo11
namespace Go.Proofs.Yteclclidibmajaa
open Go.RowKit Go.BigFrame Go.Maps Go.WideMaps
set_option linter.unusedVariables false
set_option linter.unusedSimpArgs false

theorem bel_grown {w w1 w2 : World} (h : Bel w w1) (hg : w1.grownBy w2 (some w.heap.size)) : Bel w w2 := Below.grown h hg h.size (fun j hj => by cases hj; exact Nat.le_refl _)
section
variable {w : World} {ops : Array Oper} {rest : List Oper} {o : Oper} {a : Act} {Q : Exit → Act → World → Prop}
/-- An entry of a map literal. -/
theorem wp_insert {w0 : World} (hg : o.guard = none) (m : Operand) (t : TypeId) (key : ByteArray) (u : Value) (hop : o.op = Op.insert t m (.const (.string key)) (.const u)) (e : TypeId) (ht : Try.prog.underlying t = some (.map 9 e))
    (n : Nat) (f : ByteArray → Option Value) (hm : a.eval m = .map (some w0.heap.size)) (h : SMap w w0.heap.size n f) (hb : Bel w0 w) (hn : n < maxLen) (hk : key.size ≤ maxLen)
    (hK : ∀ w', Hid (SMap w' w0.heap.size (n + 1) (fun k => if k = key then some u else f k)) → Hid (Bel w0 w') → wpList Try.prog ops Q rest (a.put o.dst undef) w') : wpList Try.prog ops Q (o :: rest) a w := by
  refine wpList_plain hg fun K' hK' => ?_
  obtain ⟨w', hrun, h1, h2⟩ := h.push ht hn hk u
  unfold Oper.wp
  simp [execOp, hop, hm, show a.eval (.const (.string key)) = .string key from rfl, show a.eval (.const u) = u from rfl, hrun, Result.andThen]
  exact hK' _ _ (hK w' (Lib.hid h1) (Lib.hid (bel_grown hb h2)))
end
/-- What the map of forms holds. -/
def kindF (k : ByteArray) : Option Value := (kindN k).map fun n : Nat => .int .i64 (n : Int)
theorem kindF_eq (k : ByteArray) : (if k = ⟨#[102, 108, 117, 115, 104]⟩ then some (Value.int .i64 5) else if k = ⟨#[99, 97, 108, 108, 32, 110, 97, 109, 101, 32, 46]⟩ then some (.int .i64 4) else if k = ⟨#[99, 97, 108, 108, 32, 110, 97, 109, 101]⟩ then some (.int .i64 4) else
    if k = ⟨#[100, 101, 102, 105, 110, 101, 32, 110, 97, 109, 101]⟩ then some (.int .i64 6) else if k = ⟨#[101, 110, 100]⟩ then some (.int .i64 8) else if k = ⟨#[114, 97, 110, 103, 101, 32, 46]⟩ then some (.int .i64 3) else
    if k = ⟨#[101, 108, 115, 101]⟩ then some (.int .i64 7) else if k = ⟨#[105, 102, 32, 46]⟩ then some (.int .i64 2) else if k = ⟨#[46]⟩ then some (.int .i64 1) else none) = kindF k := by
  simp only [kindF, kindN, apply_ite (Option.map fun n : Nat => Value.int .i64 (n : Int)), Option.map_some, Option.map_none]
  rfl
/-- 'make' lays a block of so many cells. -/
theorem make_cells {t e : TypeId} {z : Value} {size bytes : Nat} (ht : Try.prog.underlying t = some (.slice e)) (hinfo : (Try.prog.info? e).map (fun i => (i.zero, i.size, i.bytes)) = some (some z, size, bytes)) (m n : Nat) (hm : m ≤ n) (hb : bytes * n ≤ 281474976710656) (hn : n ≤ 9223372036854775807) :
    ∃ L : List Value, L.length = n * size ∧ ∀ W, (Instr.makeSlice t (.int .i64 (m : Int)) (.int .i64 (n : Int))).run Try.prog W = .ok (.slice (some ⟨W.heap.size, 0, none⟩) m n) (W.alloc (.cells L.toArray e)) := by
  obtain ⟨i0, hi, hz0, hz1, hz2⟩ := info_parts hinfo
  refine ⟨(madeCells z.cells (n * size)).toList, by rw [Array.length_toList, size_madeCells], fun W => ?_⟩
  have hr := run_make (P := Try.prog) W t e i0 _ ht hi hz0 .i64 .i64 m n (by omega) (by omega) (by rw [hz2, ← Int.natCast_mul]; omega) (by omega)
  rw [hr, hz1, Int.toNat_natCast, Int.toNat_natCast, Array.toArray_toList]
/-- The word at a place. -/
theorem strs_at {w : World} {A : Option Addr} {ws : List ByteArray} {i : Nat} (h : Strs w A ws) (hi : i < ws.length) : ∃ g o, A = some ⟨g, o, none⟩ ∧ g < w.heap.size ∧ w.cell? ⟨g, o + i, none⟩ = some (.string (ws.getD i ByteArray.empty)) := by
  rcases h with h | ⟨g, o, h1, h2, h3⟩
  · subst h; exact absurd hi (Nat.not_lt_zero _)
  · exact ⟨g, o, h1, h2, h3 i hi⟩
theorem getD_toL {ws : List ByteArray} {i : Nat} (hi : i < ws.length) : (ws.map toL)[i]? = some (toL (ws.getD i ByteArray.empty)) := by
  rw [List.getElem?_map, List.getD_eq_getElem?_getD, List.getElem?_eq_getElem hi]
  rfl
theorem bel_on1 {w w1 w2 : World} {B : Nat} (h : Bel w w1) (ho : Only [B] w1 w2) (hB : w.heap.size ≤ B) : Bel w w2 :=
  Below.trans h (ho.to_below h.size (by intro k hk; simp at hk; omega))
/-- The first k words of the form lie in the row. -/
def FoRow (w : World) (B : Nat) (L : List Value) (fs : List (List UInt8)) (k : Nat) : Prop := Blk w B 9 L ∧ L.length = fs.length ∧ ∀ i x, i < k → fs[i]? = some x → L[i]? = some (.string (ofL x))
theorem FoRow.set_ {w : World} {B k : Nat} {L : List Value} {fs : List (List UInt8)} {x : List UInt8} (h : FoRow w B L fs k) (hx : fs[k]? = some x) : FoRow (w.setCell ⟨B, k, none⟩ (.string (ofL x))) B (L.set k (.string (ofL x))) fs (k + 1) := by
  obtain ⟨h1, h2, h3⟩ := h
  refine ⟨h1.set_ k _, by rw [List.length_set]; exact h2, fun i y hi hy => ?_⟩
  have hk := (List.getElem?_eq_some_iff.1 hx).1
  by_cases e : i = k
  · subst e
    rw [hx] at hy; injection hy with hy; subst hy
    rw [List.getElem?_set_self (by omega)]
  · rw [List.getElem?_set_ne (by omega)]
    exact h3 i y (by omega) hy
end Go.Proofs.Yteclclidibmajaa
