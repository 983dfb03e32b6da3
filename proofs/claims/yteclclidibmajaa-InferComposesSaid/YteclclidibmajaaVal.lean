/-
  Values as plain data: names, checking, equality, looking up. No program is imported here.
-/
import Derived.Test.YteclclidibmajaaVt
namespace Go.Proofs.Yteclclidibmajaa

/-- The first number other than 0 among g 0, .., g (n - 1), or 0. -/
def first (g : Nat → Int) : Nat → Int
  | 0 => 0
  | n + 1 => if first g n ≠ 0 then first g n else g n
theorem first_hit {g : Nat → Int} {i : Nat} (h0 : first g i = 0) (h : g i ≠ 0) : ∀ {n : Nat}, i < n → first g n = g i := by
  intro n
  induction n with
  | zero => intro h; omega
  | succ n ih =>
    intro hi
    by_cases e : i = n
    · subst e
      simp [first, h0]
    · have := ih (by omega)
      simp [first, this, h]
theorem first_step {g : Nat → Int} {i : Nat} (h0 : first g i = 0) (h : g i = 0) : first g (i + 1) = 0 := by simp [first, h0, h]
theorem first_congr {g g' : Nat → Int} : ∀ {n : Nat}, (∀ i, i < n → g i = g' i) → first g n = first g' n := by
  intro n
  induction n with
  | zero => intro _; rfl
  | succ n ih => intro h; simp only [first]; rw [ih fun i hi => h i (by omega), h n (by omega)]
theorem first_zero {g : Nat → Int} : ∀ {n : Nat}, (∀ i, i < n → g i = 0) → first g n = 0 := by
  intro n
  induction n with
  | zero => intro _; rfl
  | succ n ih => intro h; simp only [first]; rw [ih fun i hi => h i (by omega), h n (by omega)]; simp
theorem first_all {g : Nat → Int} : ∀ {n : Nat}, first g n = 0 → ∀ i, i < n → g i = 0 := by
  intro n
  induction n with
  | zero => intro _ i hi; omega
  | succ n ih =>
    intro h i hi
    simp only [first] at h
    split at h
    · contradiction
    · rename_i h1
      by_cases e : i = n
      · subst e; exact h
      · exact ih (by simpa using h1) i (by omega)

/-! ### Names -/
def letterB (c : UInt8) : Bool := (decide (65 ≤ c.toNat) && decide (c.toNat ≤ 90)) || (decide (97 ≤ c.toNat) && decide (c.toNat ≤ 122))
def digitB (c : UInt8) : Bool := decide (48 ≤ c.toNat) && decide (c.toNat ≤ 57)
def wordB (c : UInt8) : Bool := letterB c || digitB c || c.toNat == 95
def nameL (l : List UInt8) : Bool :=
  match l with
  | [] => false
  | c :: _ => decide (l.length ≤ 32) && letterB c && l.all wordB
def nameB (s : ByteArray) : Bool := nameL s.data.toList
theorem nameL_cons {c : UInt8} {l : List UInt8} : nameL (c :: l) = (decide ((c :: l).length ≤ 32) && letterB c && (c :: l).all wordB) := rfl
theorem all_take_succ {l : List UInt8} {p : UInt8 → Bool} {k : Nat} {c : UInt8} (h : (l.take k).all p = true) (hk : l[k]? = some c) (hp : p c = true) : (l.take (k + 1)).all p = true := by
  rw [List.take_add_one, List.all_append, h, hk]
  simp [hp]
theorem not_all_of {l : List UInt8} {p : UInt8 → Bool} {k : Nat} {c : UInt8} (hk : l[k]? = some c) (hp : p c = false) : l.all p = false := by
  obtain ⟨h1, h2⟩ := List.getElem?_eq_some_iff.1 hk
  rw [Bool.eq_false_iff]
  intro h
  have := List.all_eq_true.1 h c (h2 ▸ List.getElem_mem h1)
  rw [hp] at this
  cases this

/-! ### Trees -/
namespace VT
def item (t : VT) (i : Nat) : VT := t.xs.getD i t
def value (t : VT) (i : Nat) : VT := t.vs.getD i t
def key (t : VT) (i : Nat) : ByteArray := t.ks.getD i ByteArray.empty
/-- A field that is none of its kind's is not zero. -/
def foreign (t : VT) : Bool :=
  (t.k != 0 && t.s.size != 0) || (t.k != 1 && t.n != 0) || (t.k != 2 && t.b) || (t.k != 3 && t.xs.length != 0) || (t.k != 4 && t.vs.length != 0)
/-- Is key i equal to an earlier one? -/
def twice (t : VT) (i : Nat) : Bool := decide (∃ j, j < i ∧ t.ks.getD j ByteArray.empty = t.ks.getD i ByteArray.empty)
/-- The first error of a value at a depth (f: fuel). -/
def chk : Nat → VT → Int → Int
  | 0, _, _ => 0
  | f + 1, t, d =>
    if 32 < d then 13 else if t.k < 0 ∨ 4 < t.k then 18 else if t.foreign then 2 else
      if first (fun i => chk f (t.item i) (d + 1)) t.xs.length ≠ 0 then first (fun i => chk f (t.item i) (d + 1)) t.xs.length
      else first (fun i => if !nameB (t.key i) then 11 else if t.twice i then 12 else chk f (t.value i) (d + 1)) t.vs.length
/-- Equal values (f: fuel). -/
def eqv : Nat → VT → VT → Bool
  | 0, _, _ => true
  | f + 1, a, b => a.k == b.k && decide (a.s = b.s) && a.n == b.n && a.b == b.b && a.xs.length == b.xs.length && a.vs.length == b.vs.length &&
      (List.range a.xs.length).all (fun i => eqv f (a.item i) (b.item i)) && (List.range a.vs.length).all (fun i => decide (a.key i = b.key i) && eqv f (a.value i) (b.value i))
theorem item_mem {t : VT} {i : Nat} (h : i < t.xs.length) : t.item i ∈ t.xs := by
  unfold item
  rw [List.getD_eq_getElem?_getD, List.getElem?_eq_getElem h]
  exact List.getElem_mem h
theorem value_mem {t : VT} {i : Nat} (h : i < t.vs.length) : t.value i ∈ t.vs := by
  unfold value
  rw [List.getD_eq_getElem?_getD, List.getElem?_eq_getElem h]
  exact List.getElem_mem h
theorem item_at {t : VT} {i : Nat} (h : i < t.xs.length) : t.xs[i]? = some (t.item i) := by
  unfold item
  rw [List.getD_eq_getElem?_getD, List.getElem?_eq_getElem h]
  rfl
theorem value_at {t : VT} {i : Nat} (h : i < t.vs.length) : t.vs[i]? = some (t.value i) := by
  unfold value
  rw [List.getD_eq_getElem?_getD, List.getElem?_eq_getElem h]
  rfl
theorem key_at {t : VT} {i : Nat} (h : i < t.ks.length) : t.ks[i]? = some (t.key i) := by
  unfold key
  rw [List.getD_eq_getElem?_getD, List.getElem?_eq_getElem h]
  rfl
theorem item_size {t : VT} {i : Nat} (h : i < t.xs.length) : SizeOf.sizeOf (t.item i) < SizeOf.sizeOf t := size_xs (item_mem h)
theorem value_size {t : VT} {i : Nat} (h : i < t.vs.length) : SizeOf.sizeOf (t.value i) < SizeOf.sizeOf t := size_vs (value_mem h)
theorem eqv_refl : ∀ (f : Nat) (t : VT), eqv f t t = true := by
  intro f
  induction f with
  | zero => intro t; rfl
  | succ f ih => intro t; simp [eqv, ih]
end VT
end Go.Proofs.Yteclclidibmajaa
