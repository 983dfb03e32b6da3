/-
  Values without addresses: what two values have in common, sorting by key, being valid. No program is imported here.
-/
import Derived.Test.YtollcekcmnokaaaVal
import Derived.Sort.KeysCollected
namespace Go.Proofs.Ytollcekcmnokaaa

/-- A value without addresses. -/
inductive PV where
  | mk (k : Int) (s : ByteArray) (n : Int) (b : Bool) (xs : List PV) (ks : List ByteArray) (vs : List PV) : PV
namespace VT
mutual
/-- A value, its addresses left out. -/
def plain : VT → PV
  | .mk k s n b _ _ xs _ _ ks vs => .mk k s n b (plainL xs) ks (plainL vs)
def plainL : List VT → List PV
  | [] => []
  | x :: xs => plain x :: plainL xs
end
theorem plainL_eq : ∀ xs : List VT, plainL xs = xs.map plain
  | [] => by rw [plainL]; rfl
  | x :: xs => by rw [plainL, plainL_eq xs]; rfl
theorem plain_eq (t : VT) : t.plain = .mk t.k t.s t.n t.b (t.xs.map plain) t.ks (t.vs.map plain) := by
  cases t
  rw [plain, plainL_eq, plainL_eq]
  rfl
theorem plain_item {a b : VT} (h : a.plain = b.plain) : a.k = b.k ∧ a.s = b.s ∧ a.n = b.n ∧ a.b = b.b ∧ a.xs.length = b.xs.length ∧ a.ks = b.ks ∧ a.vs.length = b.vs.length ∧
    (∀ i, i < a.xs.length → (a.item i).plain = (b.item i).plain) ∧ ∀ i, i < a.vs.length → (a.value i).plain = (b.value i).plain := by
  rw [plain_eq, plain_eq] at h
  injection h with h1 h2 h3 h4 h5 h6 h7
  have l5 := congrArg List.length h5
  have l7 := congrArg List.length h7
  simp only [List.length_map] at l5 l7
  refine ⟨h1, h2, h3, h4, l5, h6, l7, fun i hi => ?_, fun i hi => ?_⟩
  · have e := congrArg (fun l => l[i]?) h5
    simp only [List.getElem?_map] at e
    rw [item_at hi, item_at (show i < b.xs.length by omega)] at e
    simpa using e
  · have e := congrArg (fun l => l[i]?) h7
    simp only [List.getElem?_map] at e
    rw [value_at hi, value_at (show i < b.vs.length by omega)] at e
    simpa using e
theorem plain_key {a b : VT} (h : a.ks = b.ks) (i : Nat) : a.key i = b.key i := by unfold key; rw [h]
/-- Values that are the same but for their addresses are equal. -/
theorem eqv_of_plain : ∀ (f : Nat) (a b : VT), a.plain = b.plain → eqv f a b = true := by
  intro f
  induction f with
  | zero => intro a b _; rfl
  | succ f ih =>
    intro a b h
    obtain ⟨h1, h2, h3, h4, h5, h6, h7, h8, h9⟩ := plain_item h
    simp only [eqv, Bool.and_eq_true, beq_iff_eq, decide_eq_true_eq, List.all_eq_true, List.mem_range]
    exact ⟨⟨⟨⟨⟨⟨⟨h1, h2⟩, h3⟩, h4⟩, h5⟩, h7⟩, fun i hi => ih _ _ (h8 i hi)⟩, fun i hi => ⟨plain_key h6 i, ih _ _ (h9 i hi)⟩⟩
end VT

/-! ### Order of keys -/
abbrev kL (k : ByteArray) : List UInt8 := k.data.toList
/-- Fields in the order of their keys. -/
def leF (x y : ByteArray × PV) : Bool := decide (kL x.1 ≤ kL y.1)
def sortF (l : List (ByteArray × PV)) : List (ByteArray × PV) := l.mergeSort leF
theorem leF_trans (a b c : ByteArray × PV) (h1 : leF a b = true) (h2 : leF b c = true) : leF a c = true := by
  simp only [leF, decide_eq_true_eq] at *
  exact List.le_trans h1 h2
theorem leF_total (a b : ByteArray × PV) : (leF a b || leF b a) = true := by
  simp only [leF, Bool.or_eq_true, decide_eq_true_eq]
  exact List.le_total _ _
theorem kL_inj {a b : ByteArray} (h : kL a = kL b) : a = b := by
  cases a; cases b
  simp only [kL] at h
  rw [Array.toList_inj.1 h]
theorem sortF_perm (l : List (ByteArray × PV)) : (sortF l).Perm l := List.mergeSort_perm l leF
/-- Two lists of fields with the same fields, of different keys, in order, are one. -/
theorem fields_unique {l l' : List (ByteArray × PV)} (hp : l.Perm l') (hn : (l.map (·.1)).Nodup) (h1 : l.Pairwise fun x y => leF x y = true) (h2 : l'.Pairwise fun x y => leF x y = true) : l = l' := by
  refine List.Perm.eq_of_pairwise (le := fun a b => leF a b = true) (fun a b ha hb h3 h4 => ?_) h1 h2 hp
  simp only [leF, decide_eq_true_eq] at h3 h4
  have hk : a.1 = b.1 := kL_inj (List.le_antisymm h3 h4)
  have hb' : b ∈ l := hp.mem_iff.2 hb
  obtain ⟨i, hi, rfl⟩ := List.getElem_of_mem ha
  obtain ⟨j, hj, rfl⟩ := List.getElem_of_mem hb'
  have hij : i = j := by
    have hi' : i < (l.map (·.1)).length := by simpa using hi
    have hj' : j < (l.map (·.1)).length := by simpa using hj
    refine (List.getElem_inj (h₀ := hi') (h₁ := hj') hn).1 ?_
    simpa using hk
  subst hij
  rfl
theorem sortF_of {l l' : List (ByteArray × PV)} (hp : l'.Perm l) (hn : (l.map (·.1)).Nodup) (h : l'.Pairwise fun x y => leF x y = true) : l' = sortF l := by
  have hn' : (l'.map (·.1)).Nodup := (hp.map _).nodup_iff.2 hn
  exact fields_unique (hp.trans (sortF_perm l).symm) hn' h (List.pairwise_mergeSort leF_trans leF_total l)

namespace PV
def k : PV → Int | mk k _ _ _ _ _ _ => k
mutual
/-- The fields of all maps sorted by key. -/
def sort : PV → PV
  | .mk k s n b xs ks vs => .mk k s n b (sortL xs) ((sortF (ks.zip (sortL vs))).map (·.1)) ((sortF (ks.zip (sortL vs))).map (·.2))
def sortL : List PV → List PV
  | [] => []
  | x :: xs => sort x :: sortL xs
end
theorem sortL_eq : ∀ xs : List PV, sortL xs = xs.map sort
  | [] => by rw [sortL]; rfl
  | x :: xs => by rw [sortL, sortL_eq xs]; rfl
mutual
/-- A valid value at a depth. -/
def ok : PV → Nat → Prop
  | .mk k s n b xs ks vs, d => d ≤ 32 ∧ (0 ≤ k ∧ k ≤ 4) ∧ (k ≠ 0 → s.size = 0) ∧ (k ≠ 1 → n = 0) ∧ (k ≠ 2 → b = false) ∧ (k ≠ 3 → xs = []) ∧ (k ≠ 4 → vs = []) ∧ ks.length = vs.length ∧
      ks.Nodup ∧ (∀ key, key ∈ ks → nameB key = true) ∧ okL xs (d + 1) ∧ okL vs (d + 1)
def okL : List PV → Nat → Prop
  | [], _ => True
  | x :: xs, d => ok x d ∧ okL xs d
end
theorem okL_iff : ∀ (xs : List PV) (d : Nat), okL xs d ↔ ∀ x, x ∈ xs → ok x d
  | [], d => by rw [okL]; simp
  | x :: xs, d => by rw [okL, okL_iff xs d]; simp
end PV
end Go.Proofs.Ytollcekcmnokaaa
