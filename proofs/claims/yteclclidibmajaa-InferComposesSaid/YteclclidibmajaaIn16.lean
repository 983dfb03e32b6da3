/-
  The analysis of contexts of layer 16 as plain data: a node, a list, what Infer answers; the laws' plain side. No program is imported here.
-/
import Derived.Test.YteclclidibmajaaHq15
import Derived.Test.YteclclidibmajaaNt
namespace Go.Proofs.Yteclclidibmajaa
set_option linter.unusedVariables false
set_option linter.unusedSimpArgs false

/-- Are two states the same? -/
def eqH (s t : HS) : Bool := decide (s.c = t.c) && (decide (s.n = t.n) && (decide (s.a = t.a) && decide (s.p = t.p)))
theorem eqH_iff (s t : HS) : eqH s t = true ↔ s = t := by
  unfold eqH
  simp only [Bool.and_eq_true, decide_eq_true_eq]
  constructor
  · rintro ⟨h1, h2, h3, h4⟩; exact HS.ext_ h1 h2 h3 h4
  · rintro rfl; exact ⟨rfl, rfl, rfl, rfl⟩
theorem eqH_self (s : HS) : eqH s s = true := (eqH_iff s s).2 rfl
/-- What an analysis yields: a state and the escapers, or the offset and the error. -/
inductive IR where
  | ok (s : HS) (es : List Nat) : IR
  | no (a : Int) (e : Nat) : IR
namespace IR
/-- What goes on where there is no error. -/
def next (r : IR) (f : HS → List Nat → IR) : IR := match r with | ok s es => f s es | no a e => no a e
theorem next_ok (s : HS) (es : List Nat) (f : HS → List Nat → IR) : (ok s es).next f = f s es := rfl
theorem next_no (a : Int) (e : Nat) (f : HS → List Nat → IR) : (no a e).next f = no a e := rfl
end IR
mutual
def nodeI (s : HS) : NT → IR
  | .mk k a tx _ _ _ _ _ b _ _ l =>
    if k = 0 then .ok (runS s tx.data.toList) []
    else if k = 1 then (if (escS s).2 = true then .ok s [(escS s).1] else .no a 15)
    else if k = 2 then (listI s b).next fun s1 e1 => (listI s l).next fun s2 e2 => if eqH s1 s2 = true then .ok s1 (e1 ++ e2) else .no a 16
    else if k = 3 then (listI s b).next fun s1 e1 => if eqH s1 s = true then .ok s e1 else .no a 16
    else if k = 4 then (if eqH s (s0 0) = true then .ok s [] else .no a 15)
    else if k = 6 then (listI (s0 0) b).next fun s1 e1 => if eqH s1 (s0 0) = true then .ok s e1 else .no a 16
    else .ok s []
def listI (s : HS) : List NT → IR
  | [] => .ok s []
  | x :: l => (nodeI s x).next fun s1 e1 => (listI s1 l).next fun s2 e2 => .ok s2 (e1 ++ e2)
end
theorem nodeI_eq (s : HS) (t : NT) : nodeI s t =
    if t.k = 0 then .ok (runS s t.s.data.toList) []
    else if t.k = 1 then (if (escS s).2 = true then .ok s [(escS s).1] else .no t.a 15)
    else if t.k = 2 then (listI s t.b).next fun s1 e1 => (listI s t.l).next fun s2 e2 => if eqH s1 s2 = true then .ok s1 (e1 ++ e2) else .no t.a 16
    else if t.k = 3 then (listI s t.b).next fun s1 e1 => if eqH s1 s = true then .ok s e1 else .no t.a 16
    else if t.k = 4 then (if eqH s (s0 0) = true then .ok s [] else .no t.a 15)
    else if t.k = 6 then (listI (s0 0) t.b).next fun s1 e1 => if eqH s1 (s0 0) = true then .ok s e1 else .no t.a 16
    else .ok s [] := by
  cases t
  rw [nodeI]
  rfl
theorem listI_nil (s : HS) : listI s [] = .ok s [] := by rw [listI]
theorem listI_cons (s : HS) (x : NT) (l : List NT) : listI s (x :: l) = (nodeI s x).next fun s1 e1 => (listI s1 l).next fun s2 e2 => .ok s2 (e1 ++ e2) := by rw [listI]
theorem listI_append (l m : List NT) : ∀ s, listI s (l ++ m) = (listI s l).next fun s1 e1 => (listI s1 m).next fun s2 e2 => .ok s2 (e1 ++ e2) := by
  induction l with
  | nil =>
    intro s
    rw [List.nil_append, listI_nil, IR.next_ok]
    cases listI s m <;> rfl
  | cons x l ih =>
    intro s
    rw [List.cons_append, listI_cons, listI_cons]
    cases nodeI s x with
    | no a e => rfl
    | ok s1 e1 =>
      simp only [IR.next_ok]
      rw [ih s1]
      cases listI s1 l with
      | no a e => rfl
      | ok s2 e2 =>
        simp only [IR.next_ok]
        cases listI s2 m with
        | no a e => rfl
        | ok s3 e3 => simp only [IR.next_ok, List.append_assoc]
/-- One node more. -/
theorem listI_snoc (s : HS) (l : List NT) (x : NT) : listI s (l ++ [x]) = (listI s l).next fun s1 e1 => (nodeI s1 x).next fun s2 e2 => .ok s2 (e1 ++ e2) := by
  rw [listI_append]
  cases listI s l with
  | no a e => rfl
  | ok s1 e1 =>
    simp only [IR.next_ok]
    rw [listI_cons]
    cases nodeI s1 x with
    | no a e => rfl
    | ok s2 e2 => simp only [IR.next_ok, listI_nil, List.append_nil]
theorem listI_take {s : HS} {l : List NT} {i : Nat} {x : NT} (h : l[i]? = some x) : listI s (l.take (i + 1)) = (listI s (l.take i)).next fun s1 e1 => (nodeI s1 x).next fun s2 e2 => .ok s2 (e1 ++ e2) := by
  rw [List.take_add_one, h]
  exact listI_snoc s _ x
/-- Once failed, always failed. -/
theorem listI_stop {s : HS} {l : List NT} {i : Nat} {a : Int} {e : Nat} (h : listI s (l.take i) = .no a e) : listI s l = .no a e := by
  rw [← List.take_append_drop i l, listI_append, h]
  rfl
/-- What Infer answers: the escapers, or offset and error. -/
def inferI (l : List NT) : List Nat × Int × Nat :=
  match listI (s0 0) l with
  | .no a e => ([], a, e)
  | .ok s es => if eqH s (s0 0) = true then (es, 0, 0) else ([], (l.getLast?.map NT.a).getD 0, 16)
/-- All states that come up are reachable. -/
def IR.Good : IR → Prop | .ok s _ => Inv s | .no _ _ => True
theorem IR.Good.next {r : IR} {f : HS → List Nat → IR} (h : r.Good) (hf : ∀ s es, Inv s → (f s es).Good) : (r.next f).Good := by
  cases r with
  | no a e => exact trivial
  | ok s es => exact hf s es h
theorem listI_good_of (l : List NT) (h : ∀ x, x ∈ l → ∀ s, Inv s → (nodeI s x).Good) : ∀ s, Inv s → (listI s l).Good := by
  induction l with
  | nil => intro s hs; rw [listI_nil]; exact hs
  | cons x l ih =>
    intro s hs
    rw [listI_cons]
    exact (h x (by simp) s hs).next fun s1 e1 h1 => (ih (fun y hy => h y (by simp [hy])) s1 h1).next fun s2 e2 h2 => h2
theorem nodeI_good (t : NT) : ∀ s, Inv s → (nodeI s t).Good := by
  refine NT.ind (M := fun t => ∀ s, Inv s → (nodeI s t).Good) (fun t hb hl s hs => ?_) t
  rw [nodeI_eq]
  split
  · exact inv_run hs _
  split
  · split
    · exact hs
    · exact trivial
  split
  · exact (listI_good_of t.b hb s hs).next fun s1 e1 h1 => (listI_good_of t.l hl s hs).next fun s2 e2 h2 => by
      split
      · exact h1
      · exact trivial
  split
  · exact (listI_good_of t.b hb s hs).next fun s1 e1 h1 => by
      split
      · exact hs
      · exact trivial
  split
  · split
    · exact hs
    · exact trivial
  split
  · exact (listI_good_of t.b hb (s0 0) Inv.init).next fun s1 e1 h1 => by
      split
      · exact hs
      · exact trivial
  · exact hs
theorem listI_good (l : List NT) (s : HS) (hs : Inv s) : (listI s l).Good := listI_good_of l (fun x _ => nodeI_good x) s hs
/-- Errors are never 0, and escapers below 5. -/
def IR.Fine : IR → Prop | .ok _ es => ∀ k, k ∈ es → k ≤ 4 | .no _ e => e = 15 ∨ e = 16
end Go.Proofs.Yteclclidibmajaa
