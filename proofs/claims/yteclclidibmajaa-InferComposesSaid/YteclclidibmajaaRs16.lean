/-
  The reference of layer 16: values, comparing states, what its functions answer.
-/
import Derived.Test.YteclclidibmajaaHr15
import Derived.Test.YteclclidibmajaaIq16
import Derived.Test.YteclclidibmajaaRegion2
import Derived.Test.YteclclidibmajaaNm
import Derived.Laws.StructEq
namespace Go.Proofs.Yteclclidibmajaa
open Go.RowKit Go.BigFrame NT
set_option linter.unusedVariables false
set_option linter.unusedSimpArgs false
set_option maxRecDepth 100000

theorem rst_neq (s t : HS) (w : World) : (binOp .neq 38 (.agg #[.int .i64 (s.c : Nat), .string (ofL s.n), .string (ofL s.a), .string (ofL s.p)]) (.agg #[.int .i64 (t.c : Nat), .string (ofL t.n), .string (ofL t.a), .string (ofL t.p)])).run Try.prog w = .ok (.bool (!eqH s t)) w := by
  have u3 := Try.underlying3
  have a3 := Try.isAgg3
  have z3 := Try.sizeOf3
  have u9 := Try.underlying9
  have a9 := Try.isAgg9
  have z9 := Try.sizeOf9
  have hS : Try.prog.underlying 38 = some (.struct (Try.prog.fieldsOf 38)) := by kernel_rfl
  have hp : Try.prog.stoodInHeld 38 = false := by kernel_rfl
  rw [run_neq_struct, show (10000 : Nat) = 9999 + 1 from rfl, run_equalIn_agg w 9999 38 _ _ hS hp]
  simp only [Program.fieldsOf, Try.underlying38]
  go_simp
  unfold eqH
  simp only [ofL_list]
  have hc : ((s.c : Int) = (t.c : Int)) ↔ s.c = t.c := by omega
  by_cases h1 : s.c = t.c <;> by_cases h2 : s.n = t.n <;> by_cases h3 : s.a = t.a <;> by_cases h4 : s.p = t.p <;> simp [h1, h2, h3, h4, hc]
theorem rst_eql (s t : HS) (w : World) : (binOp .eql 38 (.agg #[.int .i64 (s.c : Nat), .string (ofL s.n), .string (ofL s.a), .string (ofL s.p)]) (.agg #[.int .i64 (t.c : Nat), .string (ofL t.n), .string (ofL t.a), .string (ofL t.p)])).run Try.prog w = .ok (.bool (eqH s t)) w := by
  have u3 := Try.underlying3
  have a3 := Try.isAgg3
  have z3 := Try.sizeOf3
  have u9 := Try.underlying9
  have a9 := Try.isAgg9
  have z9 := Try.sizeOf9
  have hS : Try.prog.underlying 38 = some (.struct (Try.prog.fieldsOf 38)) := by kernel_rfl
  have hp : Try.prog.stoodInHeld 38 = false := by kernel_rfl
  rw [run_eql_struct, show (10000 : Nat) = 9999 + 1 from rfl, run_equalIn_agg w 9999 38 _ _ hS hp]
  simp only [Program.fieldsOf, Try.underlying38]
  go_simp
  unfold eqH
  simp only [ofL_list]
  have hc : ((s.c : Int) = (t.c : Int)) ↔ s.c = t.c := by omega
  by_cases h1 : s.c = t.c <;> by_cases h2 : s.n = t.n <;> by_cases h3 : s.a = t.a <;> by_cases h4 : s.p = t.p <;> simp [h1, h2, h3, h4, hc]
theorem rst_guard16 (op : BinOp) (x y : Operand) (xs ys : Array Value) (w : World) : (eqGuard op 38 x y (.agg xs) (.agg ys)).run Try.prog w = .ok () w := run_eqGuard_agg w op 38 x y xs ys (by kernel_rfl)
/-! ### What the reference's functions answer -/
/-- A node as a value. -/
abbrev nV (t : NT) : Value := .agg #[.int .i64 t.k, .int .i64 t.a, .string t.s, .string t.p, .bool t.h, .bool t.e, .slice t.A t.b.length t.c, .slice t.B t.l.length t.d]
/-- The cells of a state. -/
abbrev sC (s : HS) : List Value := [.int .i64 (s.c : Nat), .string (ofL s.n), .string (ofL s.a), .string (ofL s.p)]
/-- A result as a value. -/
abbrev rsV (s : HS) (A : Option Addr) (n c : Nat) (a k : Int) : Value := .agg #[.int .i64 (s.c : Nat), .string (ofL s.n), .string (ofL s.a), .string (ofL s.p), .slice A n c, .int .i64 a, .int .i64 k]
abbrev rsC (s : HS) (A : Option Addr) (n c : Nat) (a k : Int) : List Value := [.int .i64 (s.c : Nat), .string (ofL s.n), .string (ofL s.a), .string (ofL s.p), .slice A n c, .int .i64 a, .int .i64 k]
/-- Escapers as cells. -/
def vin (es : List Nat) : List Value := es.map fun k => .int .i64 (k : Nat)
theorem vin_len (es : List Nat) : (vin es).length = es.length := by simp [vin]
theorem vin_append (a b : List Nat) : vin (a ++ b) = vin a ++ vin b := by simp [vin]
theorem vin_one (l : List Nat) : ∀ v ∈ vin l, v.oneCell' = true := by
  intro v hv
  simp only [vin, List.mem_map] at hv
  obtain ⟨c, _, rfl⟩ := hv
  rfl
/-- A row of escapers of one's own, made since w. -/
def Es (w w' : World) (A : Option Addr) (n c : Nat) (es : List Nat) : Prop := n = es.length ∧ RowAt w' 3 A n c (vin es) ∧ ∀ k, k ∈ rowT A → w.heap.size ≤ k
theorem Es.nil (w w' : World) : Es w w' none 0 0 [] := ⟨rfl, RowAt.nil _ _, by simp [rowT]⟩
theorem Es.only {w w1 w2 : World} {A : Option Addr} {n c : Nat} {es : List Nat} {S : List Nat} (h : Es w w1 A n c es) (ho : Only S w1 w2) (hS : ∀ k, k ∈ rowT A → k ∉ S) : Es w w2 A n c es := ⟨h.1, h.2.1.only ho hS, h.2.2⟩
theorem Es.later {w w1 w2 : World} {A : Option Addr} {n c : Nat} {es : List Nat} (h : Es w w1 A n c es) (hb : Bel w1 w2) : Es w w2 A n c es := h.only (bel_only hb) (by simp)
theorem Es.since {w0 w w1 : World} {A : Option Addr} {n c : Nat} {es : List Nat} (h : Es w w1 A n c es) (hw : w0.heap.size ≤ w.heap.size) : Es w0 w1 A n c es := ⟨h.1, h.2.1, fun k hk => Nat.le_trans hw (h.2.2 k hk)⟩
theorem Es.blk {w w1 : World} {A : Option Addr} {n c : Nat} {es : List Nat} {g : Nat} {t : TypeId} {cs : List Value} (h : Es w w1 A n c es) (hB : Blk w1 g t cs) (hne : t ≠ 3) : g ∉ rowT A := h.2.1.ne_blk hB hne
/-- What came of a node or a list: the state and the escapers, or the offset and the error. -/
def RsQ (r : IR) (a0 : Int) (w w' : World) (t : HS) (A : Option Addr) (n c : Nat) (a k : Int) : Prop := match r with
  | .ok s es => t = s ∧ a = a0 ∧ k = 0 ∧ Es w w' A n c es
  | .no a' k' => a = a' ∧ k = (k' : Nat) ∧ k' ≠ 0
def RnP (r : IR) (a0 : Int) (w : World) (e : Ending) (w' : World) : Prop := Bel w w' ∧ ∃ t A n c a k, e = .returned (rsV t A n c a k) ∧ Hid (RsQ r a0 w w' t A n c a k)
theorem RsQ.later {r : IR} {a0 : Int} {w w1 w2 : World} {t : HS} {A : Option Addr} {n c : Nat} {a k : Int} (h : RsQ r a0 w w1 t A n c a k) (hb : Bel w1 w2) : RsQ r a0 w w2 t A n c a k := by
  cases r with
  | ok s es => exact ⟨h.1, h.2.1, h.2.2.1, h.2.2.2.later hb⟩
  | no a' k' => exact h
def IR.Fine0 : IR → Prop | .ok _ _ => True | .no _ k => k = 15 ∨ k = 16
theorem IR.Fine0.next {r : IR} {f : HS → List Nat → IR} (h : r.Fine0) (hf : ∀ s es, (f s es).Fine0) : (r.next f).Fine0 := by
  cases r with
  | no a e => exact h
  | ok s es => exact hf s es
/-- Errors are never 0. -/
theorem nodeI_err {s : HS} {x : NT} {a : Int} {k : Nat} (h : nodeI s x = .no a k) : k = 15 ∨ k = 16 := by
  have key : ∀ l : List NT, (∀ x, x ∈ l → ∀ s, (nodeI s x).Fine0) → ∀ s, (listI s l).Fine0 := by
    intro l
    induction l with
    | nil => intro _ s; rw [listI_nil]; exact trivial
    | cons x l ih =>
      intro h s
      rw [listI_cons]
      exact (h x (by simp) s).next fun s1 e1 => (ih (fun y hy => h y (by simp [hy])) s1).next fun s2 e2 => trivial
  have all : ∀ x s, (nodeI s x).Fine0 := fun x => NT.ind (M := fun t => ∀ s, (nodeI s t).Fine0) (fun t hb hl s => by
    rw [nodeI_eq]
    split
    · exact trivial
    split
    · split
      · exact trivial
      · exact .inl rfl
    split
    · exact (key t.b hb s).next fun s1 e1 => (key t.l hl s).next fun s2 e2 => by
        split
        · exact trivial
        · exact .inr rfl
    split
    · exact (key t.b hb s).next fun s1 e1 => by
        split
        · exact trivial
        · exact .inr rfl
    split
    · split
      · exact trivial
      · exact .inl rfl
    split
    · exact (key t.b hb (s0 0)).next fun s1 e1 => by
        split
        · exact trivial
        · exact .inr rfl
    · exact trivial) x
  have := all x s
  rw [h] at this
  exact this
theorem listI_err {s : HS} {l : List NT} {a : Int} {k : Nat} (h : listI s l = .no a k) : k = 15 ∨ k = 16 := by
  induction l generalizing s with
  | nil => rw [listI_nil] at h; cases h
  | cons x l ih =>
    rw [listI_cons] at h
    cases hx : nodeI s x with
    | no a' k' =>
      rw [hx] at h
      injection h with h1 h2
      subst h1 h2
      exact nodeI_err hx
    | ok s1 e1 =>
      rw [hx, IR.next_ok] at h
      cases hl : listI s1 l with
      | no a' k' =>
        rw [hl] at h
        injection h with h1 h2
        subst h1 h2
        exact ih hl
      | ok s2 e2 => rw [hl, IR.next_ok] at h; cases h
/-! ### The end of a function whose result is a Result -/
theorem only7 (W : World) (g : Nat) (a0 a1 a2 a3 a4 a5 a6 : Value) : Only [g] W (((((((W.setCell ⟨g, 0, none⟩ a0).setCell ⟨g, 1, none⟩ a1).setCell ⟨g, 2, none⟩ a2).setCell ⟨g, 3, none⟩ a3).setCell ⟨g, 4, none⟩ a4).setCell ⟨g, 5, none⟩ a5).setCell ⟨g, 6, none⟩ a6) :=
  ((((((((Only.refl [g] W).setCell (.inl (by simp)) _).setCell (.inl (by simp)) _).setCell (.inl (by simp)) _).setCell (.inl (by simp)) _).setCell (.inl (by simp)) _).setCell (.inl (by simp)) _).setCell (.inl (by simp)) _)
theorem rs_set {f : Func} {k g : Nat} {tmps : Array Value} {w w1 : World} {r : IR} {x0 : Int} {a0 a1 a2 a3 a4 a5 a6 v0 v1 v2 v3 v4 v5 v6 : Value} (hf : f.results = #[.cell k 40]) (hp : tmps.getD k undef = .pointer (some ⟨g, 0, none⟩))
    (hB : Blk w1 g 40 [a0, a1, a2, a3, a4, a5, a6]) (hb : Bel w w1) (hg : w.heap.size ≤ g)
    (he : ∀ w2, Only [g] w1 w2 → ∃ t A n c a k, Value.agg #[v0, v1, v2, v3, v4, v5, v6] = rsV t A n c a k ∧ Hid (RsQ r x0 w w2 t A n c a k)) :
    bodyPost Try.prog f (RnP r x0 w) .ret { tmps := tmps, defers := [] } (((((((w1.setCell ⟨g, 0, none⟩ v0).setCell ⟨g, 1, none⟩ v1).setCell ⟨g, 2, none⟩ v2).setCell ⟨g, 3, none⟩ v3).setCell ⟨g, 4, none⟩ v4).setCell ⟨g, 5, none⟩ v5).setCell ⟨g, 6, none⟩ v6) := by
  have h1 := ((((((hB.set_ 0 v0).set_ 1 v1).set_ 2 v2).set_ 3 v3).set_ 4 v4).set_ 5 v5).set_ 6 v6
  simp only [List.set_cons_succ, List.set_cons_zero] at h1
  have hO := only7 w1 g v0 v1 v2 v3 v4 v5 v6
  refine bodyPost_ret (results_cell_row hf _ _ g _ _ (0, 0) _ hp h1 Try.underlying40 rfl (by kernel_rfl)) rfl ?_
  obtain ⟨t, A, n, c, a, k, e1, e2⟩ := he _ hO
  exact ⟨bel_on1 hb hO hg, t, A, n, c, a, k, by rw [← e1], e2⟩
theorem cells7 {w : World} {g : Nat} {T : TypeId} {a0 a1 a2 a3 a4 a5 a6 : Value} (h : Blk w g T [a0, a1, a2, a3, a4, a5, a6]) :
    w.cell? ⟨g, 0, none⟩ = some a0 ∧ w.cell? ⟨g, 1, none⟩ = some a1 ∧ w.cell? ⟨g, 2, none⟩ = some a2 ∧ w.cell? ⟨g, 3, none⟩ = some a3 ∧ w.cell? ⟨g, 4, none⟩ = some a4 ∧ w.cell? ⟨g, 5, none⟩ = some a5 ∧ w.cell? ⟨g, 6, none⟩ = some a6 := ⟨h.cell 0, h.cell 1, h.cell 2, h.cell 3, h.cell 4, h.cell 5, h.cell 6⟩
theorem frees7 {w : World} {g : Nat} {T : TypeId} {cs : List Value} (h : Blk w g T cs) :
    w.frozen? ⟨g, 0, none⟩ = false ∧ w.frozen? ⟨g, 1, none⟩ = false ∧ w.frozen? ⟨g, 2, none⟩ = false ∧ w.frozen? ⟨g, 3, none⟩ = false ∧ w.frozen? ⟨g, 4, none⟩ = false ∧ w.frozen? ⟨g, 5, none⟩ = false ∧ w.frozen? ⟨g, 6, none⟩ = false := ⟨h.free 0, h.free 1, h.free 2, h.free 3, h.free 4, h.free 5, h.free 6⟩
theorem info_int16 : ∃ i, Try.prog.info? 3 = some i ∧ i.zero = some (.int .i64 0) ∧ i.size = 1 ∧ i.bytes = 8 := by
  refine ⟨_, rfl, ?_, ?_, ?_⟩ <;> kernel_rfl
end Go.Proofs.Yteclclidibmajaa
