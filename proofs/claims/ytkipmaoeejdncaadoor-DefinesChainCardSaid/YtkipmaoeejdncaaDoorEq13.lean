/-
  Contract: the reference's Equal of nodes, whatever the nodes (offsets left out).
-/
import Derived.Test.YtkipmaoeejdncaaDoorEq12
namespace Go.Proofs.YtkipmaoeejdncaaDoor
open Go.RowKit Go.BigFrame NT
set_option linter.unusedVariables false
set_option linter.unusedSimpArgs false

theorem toL_beq13 (a b : ByteArray) : (a.toList == b.toList) = decide (a = b) := by
  rw [ByteArray.toList_eq, ByteArray.toList_eq, Bool.eq_iff_iff, beq_iff_eq, decide_eq_true_iff]
  exact ⟨fun h => toL_inj h, fun h => by rw [h]⟩
theorem keys_snoc (l : List NT) (x : NT) : keys false (l ++ [x]) = keys false l ++ [key false x] := by simp [keys]
theorem keys_split {l m : List NT} {k : Nat} {x u : NT} (hx : l[k]? = some x) (hu : m[k]? = some u) (h : keys false l = keys false m) : key false x = key false u := keys_at h hx hu
theorem key_of {x u : NT} (h0 : x.k = u.k) (h2 : x.s = u.s) (h3 : x.p = u.p) (h4 : x.h = u.h) (h5 : x.e = u.e) (h6 : keys false x.b = keys false u.b) (h7 : keys false x.l = keys false u.l) : key false x = key false u := by
  rw [key_mk, key_mk, h0, h2, h3, h4, h5, h6, h7]; rfl
theorem keys_step {l m : List NT} {k : Nat} {x u : NT} (hx : l[k]? = some x) (hu : m[k]? = some u) (h : keys false (l.take k) = keys false (m.take k)) (hk : key false x = key false u) : keys false (l.take (k + 1)) = keys false (m.take (k + 1)) := by
  rw [take_step hx, take_step hu, keys_snoc, keys_snoc, h, hk]
/-! Are they the same, but for offsets? -/
mutual
def eqN : NT → NT → Bool | .mk k _ s p h e _ _ b _ _ l, u => decide (k = u.k) && (decide (s = u.s) && (decide (p = u.p) && ((h == u.h) && ((e == u.e) && (eqNs b u.b && eqNs l u.l)))))
def eqNs : List NT → List NT → Bool | [], m => m.isEmpty | x :: r, m => (match m with | [] => false | u :: q => eqN x u && eqNs r q)
end
theorem eqN_eq (t u : NT) : eqN t u = (decide (t.k = u.k) && (decide (t.s = u.s) && (decide (t.p = u.p) && ((t.h == u.h) && ((t.e == u.e) && (eqNs t.b u.b && eqNs t.l u.l)))))) := by cases t; rw [eqN]; rfl
theorem eqNs_of : ∀ (l m : List NT), (∀ x, x ∈ l → ∀ u, eqN x u = true ↔ key false x = key false u) → (eqNs l m = true ↔ keys false l = keys false m)
  | [], [], _ => by simp [eqNs]
  | [], u :: q, _ => by simp [eqNs, keys]
  | x :: r, [], _ => by simp [eqNs, keys]
  | x :: r, u :: q, h => by
    rw [eqNs, Bool.and_eq_true, h x (by simp) u, eqNs_of r q fun y hy => h y (by simp [hy])]
    simp [keys]
theorem eqN_iff (t : NT) : ∀ u, eqN t u = true ↔ key false t = key false u := by
  refine NT.ind (M := fun t => ∀ u, eqN t u = true ↔ key false t = key false u) (fun t h1 h2 u => ?_) t
  rw [eqN_eq]
  simp only [Bool.and_eq_true, decide_eq_true_eq, beq_iff_eq]
  rw [eqNs_of t.b u.b h1, eqNs_of t.l u.l h2]
  constructor
  · rintro ⟨q0, q2, q3, q4, q5, q6, q7⟩
    exact key_of q0 q2 q3 q4 q5 q6 q7
  · intro h
    obtain ⟨e0, _, e2, e3, e4, e5, e6, e7⟩ := key_eq h
    exact ⟨e0, e2, e3, e4, e5, e6, e7⟩
def sameN (l m : List NT) : Bool := eqNs l m
theorem sameN_iff (l m : List NT) : sameN l m = true ↔ keys false l = keys false m := eqNs_of l m fun x _ => eqN_iff x
theorem sameN_yes {l m : List NT} (h : keys false l = keys false m) : sameN l m = true := (sameN_iff l m).2 h
theorem sameN_no {l m : List NT} (h : ¬ keys false l = keys false m) : sameN l m = false := by
  cases hs : sameN l m with
  | false => rfl
  | true => exact absurd ((sameN_iff l m).1 hs) h
end Go.Proofs.YtkipmaoeejdncaaDoor
