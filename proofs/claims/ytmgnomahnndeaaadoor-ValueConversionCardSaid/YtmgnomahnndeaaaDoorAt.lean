/-
  Go values as they lie in memory (interfaces, slices of them, maps of them), and what they convert to; contracts: maps.Keys, slices.Sorted.
-/
import Derived.Test.YtmgnomahnndeaaaDoorPv2
import Derived.Test.YtmgnomahnndeaaaDoorShelfSK
namespace Go.Proofs.YtmgnomahnndeaaaDoor
open Go.RowKit Go.BigFrame Go.Maps Go.WideMaps
set_option linter.unusedVariables false
set_option linter.unusedSimpArgs false

/-- A Go value: of a type that is not permitted, a string, an int, an int64, a bool, a slice of Go values (its place, its capacity), a map of Go values (its block, its keys, what they lead to). -/
inductive AT where
  | bad (v : Value) : AT
  | str (s : ByteArray) : AT
  | int (n : Int) : AT
  | i64 (n : Int) : AT
  | bool (b : Bool) : AT
  | list (A : Option Addr) (c : Nat) (xs : List AT) : AT
  | map (B : Nat) (ks : List ByteArray) (vs : List AT) : AT
namespace AT
/-- The value itself. -/
def val : AT → Value
  | bad v => v
  | str s => .iface 9 (.string s)
  | int n => .iface 3 (.int .i64 n)
  | i64 n => .iface 2 (.int .i64 n)
  | bool b => .iface 4 (.bool b)
  | list A c xs => .iface 53 (.slice A xs.length c)
  | map B _ _ => .iface 54 (.map (some B))
/-- None of the six types. -/
def Bad (v : Value) : Prop :=
  (∀ w, (Instr.typeAssert v 20 9 true).run Tryd.prog w = .ok (.tuple #[.string ByteArray.empty, .bool false]) w) ∧
  (∀ w, (Instr.typeAssert v 20 3 true).run Tryd.prog w = .ok (.tuple #[.int .i64 0, .bool false]) w) ∧
  (∀ w, (Instr.typeAssert v 20 2 true).run Tryd.prog w = .ok (.tuple #[.int .i64 0, .bool false]) w) ∧
  (∀ w, (Instr.typeAssert v 20 4 true).run Tryd.prog w = .ok (.tuple #[.bool false, .bool false]) w) ∧
  (∀ w, (Instr.typeAssert v 20 53 true).run Tryd.prog w = .ok (.tuple #[.slice none 0 0, .bool false]) w) ∧
  (∀ w, (Instr.typeAssert v 20 54 true).run Tryd.prog w = .ok (.tuple #[.map none, .bool false]) w)
/-- How an element of a map reads: as itself. -/
def RV (v : Value) : Option (DataW Value × List MemPlace) := some (.held v, [])
/-- The map's block holds these keys, which lead to these values. -/
def Holds (w : World) (B : Nat) (ks : List ByteArray) (vs : List AT) : Prop :=
  ∃ (n : Nat) (D : DataW Value), w.ownsMap Tryd.prog 9 RV B n D ∧ (strKeys D).Perm (ks.map kL) ∧ ∀ (i : Nat) (k : ByteArray) (v : AT), ks[i]? = some k → vs[i]? = some v → ∀ z, D.atKey (.string (kL k)) z = .held v.val
/-- All that the value leads to lies in blocks of which Q holds. -/
inductive In (w : World) (Q : Nat → Prop) : AT → Prop
  | bad (v : Value) (h : Bad v) : In w Q (.bad v)
  | str (s : ByteArray) (h : s.size ≤ 140737488351232) : In w Q (.str s)
  | int (n : Int) (h : -9223372036854775808 ≤ n ∧ n ≤ 9223372036854775807) : In w Q (.int n)
  | i64 (n : Int) (h : -9223372036854775808 ≤ n ∧ n ≤ 9223372036854775807) : In w Q (.i64 n)
  | bool (b : Bool) : In w Q (.bool b)
  | list (A : Option Addr) (c : Nat) (xs : List AT) (hc : xs.length ≤ c ∧ c ≤ 9223372036854775807 ∧ xs.length * 88 ≤ 140737488351232)
      (hA : 0 < xs.length → ∃ g o, A = some ⟨g, o, none⟩ ∧ Q g ∧ ∀ (i : Nat) (x : AT), xs[i]? = some x → w.cell? ⟨g, o + i, none⟩ = some x.val) (hx : ∀ x, x ∈ xs → In w Q x) : In w Q (.list A c xs)
  | map (B : Nat) (ks : List ByteArray) (vs : List AT) (hB : Q B) (hl : ks.length = vs.length) (hn : ks.Nodup) (hc : vs.length * 104 ≤ 140737488351232) (hm : Holds w B ks vs)
      (hks : ∀ k, k ∈ ks → k.size ≤ 140737488351232) (hv : ∀ v, v ∈ vs → In w Q v) : In w Q (.map B ks vs)
theorem Holds.bel {w w' : World} {B : Nat} {ks : List ByteArray} {vs : List AT} (h : Holds w B ks vs) (hb : Bel w w') : Holds w' B ks vs := by
  obtain ⟨n, D, h1, h2⟩ := h
  exact ⟨n, D, ownsMap_bel h1 hb, h2⟩
theorem In.bel {w w' : World} {a : AT} (h : a.In w (· < w.heap.size)) (hb : Bel w w') : a.In w' (· < w'.heap.size) := by
  induction h with
  | bad v h => exact .bad v h
  | str s h => exact .str s h
  | int n h => exact .int n h
  | i64 n h => exact .i64 n h
  | bool b => exact .bool b
  | list A c xs hc hA _ ih =>
    refine .list A c xs hc (fun h0 => ?_) ih
    obtain ⟨g, o, e, hg, hi⟩ := hA h0
    exact ⟨g, o, e, Nat.lt_of_lt_of_le hg hb.size, fun i x hx => (hb.cell hg).trans (hi i x hx)⟩
  | map B ks vs hB hl hn hc hm hks _ ih => exact .map B ks vs (Nat.lt_of_lt_of_le hB hb.size) hl hn hc (hm.bel hb) hks ih

/-- Nested at most n deep. -/
def hle : Nat → AT → Prop
  | 0, _ => False
  | n + 1, .list _ _ xs => ∀ x, x ∈ xs → hle n x
  | n + 1, .map _ _ vs => ∀ v, v ∈ vs → hle n v
  | _ + 1, _ => True
/-- The plain value of the fields. -/
def mapP (ks : List ByteArray) (ps : List PV) : PV := .mk 4 ByteArray.empty 0 false [] ((sortF (ks.zip ps)).map (·.1)) ((sortF (ks.zip ps)).map (·.2))
mutual
/-- What it converts to, if all its types are permitted. -/
def conv : AT → Option PV
  | bad _ => none
  | str s => some (.mk 0 s 0 false [] [] [])
  | int n => some (.mk 1 ByteArray.empty n false [] [] [])
  | i64 n => some (.mk 1 ByteArray.empty n false [] [] [])
  | bool b => some (.mk 2 ByteArray.empty 0 b [] [] [])
  | list _ _ xs => (convL xs).map fun ps => .mk 3 ByteArray.empty 0 false ps [] []
  | map _ ks vs => (convL vs).map (mapP ks)
def convL : List AT → Option (List PV)
  | [] => some []
  | x :: xs => match conv x, convL xs with
    | some p, some ps => some (p :: ps)
    | _, _ => none
end
theorem convL_some : ∀ {xs : List AT} {ps : List PV}, convL xs = some ps ↔ ps.length = xs.length ∧ ∀ (i : Nat) (x : AT), xs[i]? = some x → conv x = ps[i]?
  | [], ps => by
    rw [convL]
    constructor
    · intro h; injection h with h; subst h; exact ⟨rfl, fun i x h => by simp at h⟩
    · rintro ⟨h, _⟩; rw [List.length_eq_zero_iff.1 h]
  | x :: xs, ps => by
    rw [convL]
    constructor
    · intro h
      split at h
      · rename_i p ps' h1 h2
        injection h with h
        subst h
        obtain ⟨e1, e2⟩ := convL_some.1 h2
        refine ⟨by simp [e1], fun i y hy => ?_⟩
        cases i with
        | zero => simp at hy ⊢; subst hy; exact h1
        | succ i => simp at hy ⊢; exact e2 i y hy
      · cases h
    · rintro ⟨h1, h2⟩
      cases ps with
      | nil => simp at h1
      | cons p ps =>
        have e1 : conv x = some p := by simpa using h2 0 x rfl
        have e2 : convL xs = some ps := convL_some.2 ⟨by simpa using h1, fun i y hy => by simpa using h2 (i + 1) y (by simpa using hy)⟩
        rw [e1, e2]
theorem convL_none {xs : List AT} {i : Nat} {x : AT} (hx : xs[i]? = some x) (h : conv x = none) : convL xs = none := by
  cases hc : convL xs with
  | none => rfl
  | some ps =>
    obtain ⟨e1, e2⟩ := convL_some.1 hc
    have := e2 i x hx
    rw [h] at this
    have hi := (List.getElem?_eq_some_iff.1 hx).1
    rw [List.getElem?_eq_getElem (by omega)] at this
    cases this
end AT

/-! ### Keys in order -/
/-- Names in order. -/
def sortK (ks : List ByteArray) : List ByteArray := ((ks.map kL).mergeSort leB).map ofL
theorem sortK_perm (ks : List ByteArray) : (sortK ks).Perm ks := by
  have h := (List.mergeSort_perm (ks.map kL) leB).map ofL
  rw [List.map_map] at h
  have e : ks.map (ofL ∘ kL) = ks := by
    conv => rhs; rw [← List.map_id ks]
    exact List.map_congr_left fun k _ => ofL_toL k
  rw [e] at h
  exact h
theorem sortK_sorted (ks : List ByteArray) : (sortK ks).Pairwise fun x y => kL x ≤ kL y := by
  have tr : ∀ a b c : List UInt8, leB a b = true → leB b c = true → leB a c = true := fun a b c h1 h2 => by simp only [leB, decide_eq_true_eq] at *; exact List.le_trans h1 h2
  have to : ∀ a b : List UInt8, (leB a b || leB b a) = true := fun a b => by simp only [leB, Bool.or_eq_true, decide_eq_true_eq]; exact List.le_total a b
  have h := List.pairwise_mergeSort tr to (ks.map kL)
  unfold sortK
  rw [List.pairwise_map]
  exact h.imp fun {a b} h => by
    simp only [leB, decide_eq_true_eq] at h
    exact h
theorem mem_sortK {ks : List ByteArray} {k : ByteArray} : k ∈ sortK ks ↔ k ∈ ks := (sortK_perm ks).mem_iff

theorem keys_c (mb : Option Nat) (W : World) :
    Calls Tryd.prog 62 #[.map mb] W fun e w' => e = .returned (.func (.func 74) #[] #[.pointer (some ⟨W.heap.size, 0, none⟩)]) ∧ w' = W.alloc (.cells #[.map mb] 54) :=
  (callsIn_wide (n := 5)).1 (AnyZ.keys_in Tryd.keys62 Fence.wide 5 trivial rfl mb W)
end Go.Proofs.YtmgnomahnndeaaaDoor
