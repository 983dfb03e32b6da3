/-
  A provider as it lies in memory: its maps, its pulled names; what it answers.
-/
import Derived.Test.YtollcekcmnokaaaSm10
import Derived.Test.YtollcekcmnokaaaCl10C
import Derived.Test.YtollcekcmnokaaaPv2
namespace Go.Proofs.Ytollcekcmnokaaa
open Go.RowKit Go.BigFrame
set_option linter.unusedVariables false

/-- The value with a key, in a list. -/
def flOf (l : List (ByteArray × VT)) (nm : ByteArray) : Option VT := (l.find? fun p => decide (p.1 = nm)).map (·.2)
theorem flOf_push {l : List (ByteArray × VT)} {key : ByteArray} {y : VT} (hk : ∀ p, p ∈ l → p.1 ≠ key) (nm : ByteArray) : flOf (l ++ [(key, y)]) nm = if nm = key then some y else flOf l nm := by
  unfold flOf
  rw [List.find?_append]
  by_cases e : nm = key
  · subst e
    have h : l.find? (fun p => decide (p.1 = nm)) = none := by
      rw [List.find?_eq_none]
      intro p hp
      simpa using hk p hp
    rw [h, if_pos rfl]
    simp
  · rw [if_neg e]
    have h : [(key, y)].find? (fun p => decide (p.1 = nm)) = none := by
      rw [List.find?_eq_none]
      intro p hp
      simp only [List.mem_singleton] at hp
      subst hp
      simpa using fun h => e h.symm
    rw [h]
    simp
theorem flOf_mem {l : List (ByteArray × VT)} {nm : ByteArray} {u : VT} (h : flOf l nm = some u) : ∃ p, p ∈ l ∧ p.2 = u := by
  unfold flOf at h
  obtain ⟨p, hp, rfl⟩ := Option.map_eq_some_iff.1 h
  exact ⟨p, List.mem_of_find?_eq_some hp, rfl⟩
theorem flOf_fld {t : VT} {us : List VT} (hkl : t.ks.length = t.vs.length) (hl : us.length = t.vs.length) (hp : ∀ (i : Nat) (u : VT), us[i]? = some u → some u.plain = (t.vs[i]?).map VT.plain) (nm : ByteArray) :
    (flOf (t.ks.zip us) nm).map VT.plain = (t.findI nm).map fun i => (t.value i).plain := by
  cases h : t.findI nm with
  | none =>
    unfold VT.findI at h
    rw [List.find?_eq_none] at h
    have hn : (t.ks.zip us).find? (fun p => decide (p.1 = nm)) = none := by
      rw [List.find?_eq_none]
      intro p hp
      obtain ⟨i, hi, rfl⟩ := List.getElem_of_mem hp
      rw [List.length_zip] at hi
      have := h i (by simp; omega)
      unfold VT.key at this
      rw [List.getD_eq_getElem?_getD, List.getElem?_eq_getElem (by omega)] at this
      rw [List.getElem_zip]
      simpa using this
    unfold flOf
    rw [hn]
    rfl
  | some i =>
    unfold VT.findI at h
    rw [List.find?_range_eq_some] at h
    obtain ⟨h1, h2, h3⟩ := h
    have hi : i < t.vs.length := by simpa using h2
    have hki : i < t.ks.length := by omega
    have hui : i < us.length := by omega
    have hkey : t.ks[i] = nm := by
      unfold VT.key at h1
      rw [List.getD_eq_getElem?_getD, List.getElem?_eq_getElem hki] at h1
      simpa using h1
    have hf : (t.ks.zip us).find? (fun p => decide (p.1 = nm)) = some (t.ks[i], us[i]) := by
      rw [List.find?_eq_some_iff_getElem]
      refine ⟨by simpa using hkey, i, by rw [List.length_zip]; omega, by rw [List.getElem_zip], fun j hj => ?_⟩
      have := h3 j hj
      unfold VT.key at this
      rw [List.getD_eq_getElem?_getD, List.getElem?_eq_getElem (by omega)] at this
      rw [List.getElem_zip]
      simpa using this
    unfold flOf
    rw [hf]
    have := hp i us[i] (List.getElem?_eq_getElem hui)
    rw [VT.value_at hi] at this
    exact this

/-- Is a name among these? -/
def hasB (l : List ByteArray) (nm : ByteArray) : Bool := l.any fun k => decide (k = nm)
theorem hasB_iff {l : List ByteArray} {nm : ByteArray} : hasB l nm = true ↔ nm ∈ l := by
  unfold hasB
  rw [List.any_eq_true]
  constructor
  · rintro ⟨k, hk, h⟩
    have := of_decide_eq_true h
    subst this
    exact hk
  · intro h
    exact ⟨nm, h, decide_eq_true rfl⟩
theorem hasB_push {l : List ByteArray} {key nm : ByteArray} : hasB (l ++ [key]) nm = if nm = key then true else hasB l nm := by
  unfold hasB
  rw [List.any_append]
  by_cases e : nm = key
  · subst e; simp
  · have : ¬ key = nm := fun h => e h.symm
    simp [e, this]
/-- What a name's result is: with the values of the provider's own, and as it is said. -/
def resT (o : Option VT) (bad : Bool) : VT × Int := if bad then (VT.zero, 20) else match o with
  | some u => (u, 0)
  | none => (VT.zero, 17)
def ansT (t : VT) (fail : List ByteArray) (nm : ByteArray) : PV × Int := if hasB fail nm then (VT.zero.plain, 20) else match t.findI nm with
  | some i => ((t.value i).plain, 0)
  | none => (VT.zero.plain, 17)
/-- What Get answers. -/
def getA (t : VT) (fail : List ByteArray) (nm : ByteArray) : PV × Int := if nameB nm then ansT t fail nm else (VT.zero.plain, 11)
/-- The pulled names behind it. -/
def pullA (ps : List ByteArray) (nm : ByteArray) : List ByteArray := if nameB nm && !hasB ps nm then ps ++ [nm] else ps
def resV (p : VT × Int) : Value := .agg #[.int .i64 p.1.k, .string p.1.s, .int .i64 p.1.n, .bool p.1.b, .slice p.1.A p.1.xs.length p.1.c, .slice p.1.F p.1.vs.length p.1.d, .int .i64 p.2]
theorem resT_ans {o : Option VT} {t : VT} {fail : List ByteArray} {nm : ByteArray} (h : o.map VT.plain = (t.findI nm).map fun i => (t.value i).plain) : ((resT o (hasB fail nm)).1.plain, (resT o (hasB fail nm)).2) = ansT t fail nm := by
  unfold resT ansT
  split
  · rfl
  · cases hf : t.findI nm with
    | none =>
      rw [hf] at h
      cases o with
      | none => rfl
      | some u => cases h
    | some i =>
      rw [hf] at h
      cases o with
      | none => cases h
      | some u =>
        simp only [Option.map_some, Option.some.injEq] at h
        rw [h]

/-- A provider at block r: its maps, its row of pulled names, its values in blocks from lo to hi. -/
structure PrAt (t : VT) (fail ps : List ByteArray) (r bf bl br nf nl lo hi : Nat) (A : Option Addr) (c : Nat) (l : List (ByteArray × VT)) (w : World) : Prop where
  head : Blk w r 58 [.map (some bf), .map (some bl), .map (some br), .slice A ps.length c]
  mf : SMap w bf nf (fun k => (flOf l k).map VT.val)
  ml : SMap w bl nl (fun k => if hasB fail k then some (.bool true) else none)
  mr : SMap w br ps.length (fun k => if hasB ps k then some (resV (resT (flOf l k) (hasB fail k))) else none)
  row : KRow w 9 1 fS A c ps
  trees : ∀ k u, flOf l k = some u → u.In w (fun g => lo ≤ g ∧ g < hi ∧ g ≠ r ∧ g ≠ br)
  plains : ∀ k, (flOf l k).map VT.plain = (t.findI k).map fun i => (t.value i).plain
  in_ : (lo ≤ r ∧ r < hi) ∧ (lo ≤ bf ∧ bf < hi) ∧ (lo ≤ bl ∧ bl < hi) ∧ (lo ≤ br ∧ br < hi)
  ne : bf ≠ br ∧ bl ≠ br ∧ r ≠ br ∧ r ≠ bf ∧ r ≠ bl
  top : hi ≤ w.heap.size
  rows : ∀ k, k ∈ rowT A → hi ≤ k
  names : ∀ k, k ∈ ps → nameB k = true
def Pr (t : VT) (fail : List ByteArray) (r : Nat) (ps : List ByteArray) (w : World) (T : List Nat) : Prop :=
  ∃ bf bl br nf nl lo hi A c l, PrAt t fail ps r bf bl br nf nl lo hi A c l w ∧ T = List.range' lo (hi - lo) ++ rowT A
theorem mem_T {lo hi k : Nat} {A : Option Addr} (hl : lo ≤ hi) : k ∈ List.range' lo (hi - lo) ++ rowT A ↔ (lo ≤ k ∧ k < hi) ∨ k ∈ rowT A := by
  rw [List.mem_append, List.mem_range'_1]
  have : lo + (hi - lo) = hi := by omega
  rw [this]
theorem PrAt.only {t : VT} {fail ps : List ByteArray} {r bf bl br nf nl lo hi : Nat} {A : Option Addr} {c : Nat} {l : List (ByteArray × VT)} {w w' : World} {S : List Nat} (h : PrAt t fail ps r bf bl br nf nl lo hi A c l w) (ho : Only S w w')
    (hS : ∀ k, k ∈ S → ¬ ((lo ≤ k ∧ k < hi) ∨ k ∈ rowT A)) : PrAt t fail ps r bf bl br nf nl lo hi A c l w' := by
  obtain ⟨i1, i2, i3, i4⟩ := h.in_
  have htop := h.top
  exact ⟨h.head.only ho (fun hm => hS _ hm (.inl i1)), h.mf.only ho (fun hm => hS _ hm (.inl i2)), h.ml.only ho (fun hm => hS _ hm (.inl i3)), h.mr.only ho (fun hm => hS _ hm (.inl i4)), h.row.only ho (fun k hk hm => hS _ hm (.inr hk)),
    fun k u hu => (h.trees k u hu).only ho (fun g hg => ⟨fun hm => hS _ hm (.inl ⟨hg.1, hg.2.1⟩), by omega⟩) (fun g hg => hg), h.plains, h.in_, h.ne, Nat.le_trans htop ho.size, h.rows, h.names⟩
theorem PrAt.le {t : VT} {fail ps : List ByteArray} {r bf bl br nf nl lo hi : Nat} {A : Option Addr} {c : Nat} {l : List (ByteArray × VT)} {w : World} (h : PrAt t fail ps r bf bl br nf nl lo hi A c l w) : lo ≤ hi := by
  obtain ⟨i1, _⟩ := h.in_
  omega
theorem Pr.only {t : VT} {fail ps : List ByteArray} {r : Nat} {w w' : World} {T S : List Nat} (h : Pr t fail r ps w T) (ho : Only S w w') (hS : ∀ k, k ∈ T → k ∉ S) : Pr t fail r ps w' T := by
  obtain ⟨bf, bl, br, nf, nl, lo, hi, A, c, l, h1, rfl⟩ := h
  exact ⟨bf, bl, br, nf, nl, lo, hi, A, c, l, h1.only ho (fun k hk hm => hS k ((mem_T h1.le).2 hm) hk), rfl⟩
theorem Pr.lt {t : VT} {fail ps : List ByteArray} {r : Nat} {w : World} {T : List Nat} (h : Pr t fail r ps w T) : ∀ k, k ∈ T → k < w.heap.size := by
  obtain ⟨bf, bl, br, nf, nl, lo, hi, A, c, l, h1, rfl⟩ := h
  intro k hk
  have htop := h1.top
  rcases (mem_T h1.le).1 hk with h | h
  · omega
  · exact h1.row.lt k h
theorem Pr.bel {t : VT} {fail ps : List ByteArray} {r : Nat} {w w' : World} {T : List Nat} (h : Pr t fail r ps w T) (hb : Bel w w') : Pr t fail r ps w' T := h.only (bel_only hb) (by simp)
end Go.Proofs.Ytollcekcmnokaaa
