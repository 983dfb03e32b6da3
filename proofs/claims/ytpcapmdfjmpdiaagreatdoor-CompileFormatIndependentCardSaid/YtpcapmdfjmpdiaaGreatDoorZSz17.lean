/-
  The reference of layer 17: size and prints.
-/
import Derived.Test.YtpcapmdfjmpdiaaGreatDoorZMp14
namespace Go.Proofs.YtpcapmdfjmpdiaaGreatDoor
open Go.RowKit Go.BigFrame NT
set_option linter.unusedVariables false
set_option linter.unusedSimpArgs false
set_option maxRecDepth 100000

namespace NT
mutual
def szr : NT → Nat | mk k _ _ _ _ e _ _ b _ _ l => if k = 6 then 0 else if k = 2 then 1 + szrs b + szrs l + (if e = true then 1 else 0) else if k = 3 then 2 + szrs b else 1
def szrs : List NT → Nat | [] => 0 | x :: r => szr x + szrs r
end
mutual
def prr : NT → Nat | mk k _ _ _ _ _ _ _ b _ _ l => (if k = 1 then 1 else 0) + (prrs b + prrs l)
def prrs : List NT → Nat | [] => 0 | x :: r => prr x + prrs r
end
theorem szr_eq (t : NT) : t.szr = if t.k = 6 then 0 else if t.k = 2 then 1 + szrs t.b + szrs t.l + (if t.e = true then 1 else 0) else if t.k = 3 then 2 + szrs t.b else 1 := by cases t; rw [szr]; rfl
theorem prr_eq (t : NT) : t.prr = (if t.k = 1 then 1 else 0) + (prrs t.b + prrs t.l) := by cases t; rw [prr]; rfl
theorem szrs_nil : szrs [] = 0 := by simp [szrs]
theorem szrs_cons (x : NT) (r : List NT) : szrs (x :: r) = szr x + szrs r := by simp [szrs]
theorem prrs_nil : prrs [] = 0 := by simp [prrs]
theorem prrs_cons (x : NT) (r : List NT) : prrs (x :: r) = prr x + prrs r := by simp [prrs]
theorem szr_bound (t : NT) : szr t ≤ 3 * tot t ∧ prr t ≤ tot t := by
  have key : ∀ l : List NT, (∀ x, x ∈ l → szr x ≤ 3 * tot x ∧ prr x ≤ tot x) → szrs l ≤ 3 * tots l ∧ prrs l ≤ tots l := by
    intro l
    induction l with
    | nil => intro _; simp [szrs_nil, prrs_nil, tots_nil]
    | cons x l ih =>
      intro h
      have h1 := h x (by simp)
      have h2 := ih fun y hy => h y (by simp [hy])
      rw [szrs_cons, prrs_cons, tots_cons]
      omega
  refine NT.ind (M := fun t => szr t ≤ 3 * tot t ∧ prr t ≤ tot t) (fun t hb hl => ?_) t
  have h1 := key _ hb
  have h2 := key _ hl
  rw [szr_eq, prr_eq, tot_eq]
  constructor
  · split
    · omega
    split
    · split <;> omega
    split <;> omega
  · split <;> omega
theorem szrs_bound : ∀ l : List NT, szrs l ≤ 3 * tots l ∧ prrs l ≤ tots l
  | [] => by simp [szrs_nil, prrs_nil, tots_nil]
  | x :: l => by
    have h1 := szr_bound x
    have h2 := szrs_bound l
    rw [szrs_cons, prrs_cons, tots_cons]
    omega
end NT
theorem Bel.drew17 (w : World) : Bel w w.drew := (Below.refl _ _).drew
end Go.Proofs.YtpcapmdfjmpdiaaGreatDoor
