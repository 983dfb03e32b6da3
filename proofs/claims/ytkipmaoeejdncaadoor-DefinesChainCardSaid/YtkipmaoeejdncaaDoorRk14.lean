/-
  Contract: the reference's Calls of layer 14.
-/
import Derived.Test.YtkipmaoeejdncaaDoorLa11
import Derived.Test.YtkipmaoeejdncaaDoorNm
import Derived.Test.YtkipmaoeejdncaaDoorKRow
import Derived.Test.YtkipmaoeejdncaaDoorDn14
namespace Go.Proofs.YtkipmaoeejdncaaDoor
open Go.RowKit Go.BigFrame NT
set_option linter.unusedVariables false
set_option linter.unusedSimpArgs false

theorem callN_len (t : NT) : (callN t).length ≤ t.tot := by
  refine NT.ind (M := fun t => (callN t).length ≤ t.tot) (fun t h1 h2 => ?_) t
  have key : ∀ l : List NT, (∀ x, x ∈ l → (callN x).length ≤ x.tot) → (callNs l).length ≤ tots l := by
    intro l
    induction l with
    | nil => intro _; simp [callNs_nil, tots_nil]
    | cons x l ih =>
      intro h
      rw [callNs_cons, tots_cons, List.length_append]
      have := h x (by simp)
      have := ih fun y hy => h y (by simp [hy])
      omega
  have := key _ h1
  have := key _ h2
  rw [callN_eq, tot_eq, List.length_append, List.length_append]
  split <;> simp <;> omega
theorem callNs_len : ∀ l : List NT, (callNs l).length ≤ tots l
  | [] => by simp [callNs_nil, tots_nil]
  | x :: l => by
    rw [callNs_cons, tots_cons, List.length_append]
    have := callN_len x
    have := callNs_len l
    omega
theorem callNs_step {l : List NT} {i : Nat} {x : NT} (h : l[i]? = some x) : callNs (l.take (i + 1)) = callNs (l.take i) ++ callN x := by rw [NT.take_step h, callNs_append, callNs_cons, callNs_nil, List.append_nil]
/-- What the reference's Calls answers: the calls themselves, as they lie, in a row of its own. -/
def RcP (l : List NT) (w : World) (e : Ending) (w' : World) : Prop := ∃ A c, e = .returned (.slice A (callNs l).length c) ∧ Hid (KRow w' 39 8 NT.cs A c (callNs l)) ∧ Hid (∀ k, k ∈ rowT A → w.heap.size ≤ k) ∧ Hid (Bel w w')
theorem bel_onK14 {S : List Nat} {w w1 w2 : World} (h : Bel w w1) (ho : Only S w1 w2) (hS : ∀ k, k ∈ S → w.heap.size ≤ k) : Bel w w2 := bel_of_only ((bel_only h).join ho (fun k hk => .inr (hS k hk)))
/-- The state of the row of calls. -/
structure RkAt (w wr : World) (A : Option Addr) (q c : Nat) (done : List NT) : Prop where
  row : KRow wr 39 8 NT.cs A c done
  len : done.length = q
  fresh : ∀ k, k ∈ rowT A → w.heap.size ≤ k
  bel : Bel w wr
theorem RkAt.later {w wr w2 : World} {A : Option Addr} {q c : Nat} {done : List NT} (h : RkAt w wr A q c done) (hb : Bel wr w2) : RkAt w w2 A q c done :=
  ⟨h.row.only (bel_only hb) (by simp), h.len, h.fresh, h.bel.trans hb⟩
theorem RkAt.push {w wr w2 : World} {A A' : Option Addr} {q c c' : Nat} {done m : List NT} (h : RkAt w wr A q c done) (hR : KRow w2 39 8 NT.cs A' c' (done ++ m)) (hO : Only (rowT A) wr w2) (hK : ∀ k, k ∈ rowT A' → k ∈ rowT A ∨ k = wr.heap.size) : RkAt w w2 A' (q + m.length) c' (done ++ m) := by
  refine ⟨hR, by rw [List.length_append, h.len], fun k hk => ?_, bel_onK14 h.bel hO h.fresh⟩
  rcases hK k hk with h1 | h1
  · exact h.fresh k h1
  · have := h.bel.size; omega
theorem info_node14 : (Tryd.prog.info? 39).map (fun i => (i.zero, i.size, i.bytes)) = some (some (.agg #[.int .i64 0, .int .i64 0, .string ByteArray.empty, .string ByteArray.empty, .bool false, .bool false, .slice none 0 0, .slice none 0 0]), 8, 104) := by kernel_rfl
theorem cells_node14 : (Value.agg #[.int .i64 0, .int .i64 0, .string ByteArray.empty, .string ByteArray.empty, .bool false, .bool false, .slice none 0 0, .slice none 0 0]).cells.size = 8 := by kernel_rfl
section
variable {w : World} {ops : Array Oper} {rest : List Oper} {o : Oper} {a : Act} {Q : Exit → Act → World → Prop}
theorem wp_rkMany (hgd : o.guard = none) (s x : Operand) (ho : o.op = .call { callee := .builtin .append, args := #[s, x], argTypes := #[27, 27] })
    {w0 : World} {A : Option Addr} {n c : Nat} {l : List NT} (hA : RkAt w0 w A n c l) (hs : a.eval s = .slice A n c) (X : Option Addr) (d : Nat) (m : List NT) (k : Nat) (hk : m.length = k) (hx : a.eval x = .slice X k d) (hX : Src w 8 NT.cs X m) (hle : n + m.length ≤ 100000) (N : Nat) (hN : N = n + k)
    (h : ∀ A' c' w', Hid (RkAt w0 w' A' N c' (l ++ m)) → wpList Tryd.prog ops Q rest (a.put o.dst (.slice A' N c')) w') :
    wpList Tryd.prog ops Q (o :: rest) a w :=
  wp_kAppend hgd s x 27 ho 39 _ 8 104 NT.cs NT.cs_len NT.cs_one Tryd.underlying27 info_node14 cells_node14 (by decide) A c l n hA.len hs hA.row X d m k hk hx hX (by unfold maxLen; omega) (by omega) N hN
    (fun A' c' w' h1 h2 h3 => h A' c' w' (Lib.hid (by have := hA.push h1.out h2 h3.out; rwa [hk, ← hN] at this)))
end
end Go.Proofs.YtkipmaoeejdncaaDoor
