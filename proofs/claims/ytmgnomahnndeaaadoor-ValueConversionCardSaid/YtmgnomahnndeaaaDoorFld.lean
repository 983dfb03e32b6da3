/-
  Looking up, as plain data; contracts: slices.IndexFunc over Lookup's closure.
-/
import Derived.Test.YtmgnomahnndeaaaDoorSplit2
namespace Go.Proofs.YtmgnomahnndeaaaDoor
open Go.RowKit Go.BigFrame
set_option linter.unusedVariables false
set_option linter.unusedSimpArgs false

namespace VT
def zero : VT := .mk 0 ByteArray.empty 0 false none 0 [] none 0 [] []
/-- The first field with a key. -/
def findI (t : VT) (nm : ByteArray) : Option Nat := (List.range t.vs.length).find? (fun i => decide (t.key i = nm))
def fld (t : VT) (nm : ByteArray) : Except Int VT :=
  if t.k ≠ 4 then .error 18 else match t.findI nm with
    | some i => .ok (t.value i)
    | none => .error 17
def look (t : VT) (l : List ByteArray) : Except Int VT := l.foldlM fld t
theorem look_nil (t : VT) : look t [] = .ok t := rfl
theorem look_cons (t : VT) (nm : ByteArray) (l : List ByteArray) : look t (nm :: l) = (match fld t nm with | .ok u => look u l | .error e => .error e) := by
  unfold look
  rw [List.foldlM_cons]
  cases fld t nm <;> rfl
theorem look_append (t : VT) (l m : List ByteArray) : look t (l ++ m) = (match look t l with | .ok u => look u m | .error e => .error e) := by
  unfold look
  rw [List.foldlM_append]
  cases List.foldlM fld t l <;> rfl
theorem findI_none {t : VT} {nm : ByteArray} (h : ∀ i, i < t.vs.length → t.key i ≠ nm) : t.findI nm = none := by
  unfold findI
  rw [List.find?_eq_none]
  intro i hi
  simpa using h i (by simpa using hi)
theorem findI_some {t : VT} {nm : ByteArray} {i : Nat} (hi : i < t.vs.length) (h : t.key i = nm) (hb : ∀ j, j < i → t.key j ≠ nm) : t.findI nm = some i := by
  unfold findI
  rw [List.find?_range_eq_some]
  exact ⟨by simpa using h, by simpa using hi, fun j hj => by simpa using hb j hj⟩
theorem In.item {w : World} {Q : Nat → Prop} {t : VT} (h : t.In w Q) {i : Nat} (hi : i < t.xs.length) : (t.item i).In w Q := by
  cases h with
  | mk _ _ _ _ _ _ _ _ _ hx _ _ => exact hx _ (item_mem hi)
theorem In.value {w : World} {Q : Nat → Prop} {t : VT} (h : t.In w Q) {i : Nat} (hi : i < t.vs.length) : (t.value i).In w Q := by
  cases h with
  | mk _ _ _ _ _ _ _ _ _ _ hv _ => exact hv _ (value_mem hi)
theorem In.fld {w : World} {Q : Nat → Prop} {t u : VT} (h : t.In w Q) {nm : ByteArray} (hf : t.fld nm = .ok u) : u.In w Q := by
  unfold VT.fld at hf
  split at hf
  · cases hf
  · split at hf
    · rename_i i hi
      injection hf with hf
      subst hf
      unfold findI at hi
      have := List.mem_of_find?_eq_some hi
      exact h.value (by simpa using this)
    · cases hf
theorem In.look {w : World} {Q : Nat → Prop} : ∀ {l : List ByteArray} {t u : VT}, t.In w Q → t.look l = .ok u → u.In w Q := by
  intro l
  induction l with
  | nil => intro t u h hl; rw [look_nil] at hl; injection hl with hl; subst hl; exact h
  | cons nm l ih =>
    intro t u h hl
    rw [look_cons] at hl
    cases hf : t.fld nm with
    | ok v => rw [hf] at hl; exact ih (h.fld hf) hl
    | error e => rw [hf] at hl; cases hl
/-- Where the fields lie. -/
theorem In.fields {w : World} {Q : Nat → Prop} {t : VT} (h : t.In w Q) (h0 : 0 < t.vs.length) :
    ∃ g o, t.F = some ⟨g, o, none⟩ ∧ Q g ∧ ∀ i, i < t.vs.length → w.cell? ⟨g, o + i * 7, none⟩ = some (.string (t.key i)) ∧ (t.value i).Cells w g (o + i * 7 + 1) := by
  cases h with
  | mk _ _ _ _ _ _ hkl _ hF _ _ _ =>
    obtain ⟨g, o, e, hg, hi⟩ := hF h0
    exact ⟨g, o, e, hg, fun i hl => hi i _ _ (key_at (by omega)) (value_at hl)⟩
theorem In.items {w : World} {Q : Nat → Prop} {t : VT} (h : t.In w Q) (h0 : 0 < t.xs.length) :
    ∃ g o, t.A = some ⟨g, o, none⟩ ∧ Q g ∧ ∀ i, i < t.xs.length → (t.item i).Cells w g (o + i * 6) := by
  cases h with
  | mk _ _ _ _ _ _ _ hA _ _ _ _ =>
    obtain ⟨g, o, e, hg, hi⟩ := hA h0
    exact ⟨g, o, e, hg, fun i hl => hi i _ (item_at hl)⟩
theorem In.bounds {w : World} {Q : Nat → Prop} {t : VT} (h : t.In w Q) : (-9223372036854775808 ≤ t.k ∧ t.k ≤ 9223372036854775807) ∧ (-9223372036854775808 ≤ t.n ∧ t.n ≤ 9223372036854775807) ∧ t.s.size ≤ 140737488351232 ∧
    t.xs.length ≤ t.c ∧ t.c ≤ 9223372036854775807 ∧ t.vs.length ≤ t.d ∧ t.d ≤ 9223372036854775807 ∧ t.ks.length = t.vs.length := by
  cases h with
  | mk _ hk hn hs hc hd hkl _ _ _ _ _ =>
    unfold maxLen at hc hd
    unfold reachBytes at hs
    exact ⟨hk, hn, hs, hc.1, hc.2.1, hd.1, hd.2.1, hkl⟩
theorem In.lens {w : World} {Q : Nat → Prop} {t : VT} (h : t.In w Q) : t.xs.length ≤ 140737488351232 ∧ t.vs.length ≤ 140737488351232 := by
  cases h with
  | mk _ _ _ _ hc hd _ _ _ _ _ _ =>
    unfold reachBytes at hc hd
    exact ⟨by omega, by omega⟩
theorem In.bytes {w : World} {Q : Nat → Prop} {t : VT} (h : t.In w Q) : t.xs.length * 88 ≤ 140737488351232 ∧ t.vs.length * 104 ≤ 140737488351232 := by
  cases h with
  | mk _ _ _ _ hc hd _ _ _ _ _ _ =>
    unfold reachBytes at hc hd
    exact ⟨hc.2.2, hd.2.2⟩
theorem In.keys {w : World} {Q : Nat → Prop} {t : VT} (h : t.In w Q) {i : Nat} (hi : i < t.vs.length) : (t.key i).size ≤ 140737488351232 := by
  cases h with
  | mk _ _ _ _ _ _ hkl _ _ _ _ hks =>
    have := hks (t.key i) (by
      unfold key
      rw [List.getD_eq_getElem?_getD, List.getElem?_eq_getElem (by omega)]
      exact List.getElem_mem _)
    unfold reachBytes at this
    exact this
end VT

theorem toList_beq (a b : ByteArray) : (a.toList == b.toList) = decide (a = b) := by
  rw [ByteArray.toList_eq, ByteArray.toList_eq, Bool.eq_iff_iff, beq_iff_eq, decide_eq_true_iff]
  exact ⟨fun h => toL_inj h, fun h => by rw [h]⟩

/-- Lookup's closure at a field. -/
theorem keyIs_c (w : World) (key nm : ByteArray) (v0 v1 v2 v3 v4 v5 : Value) (b : Nat) (hb : b < w.heap.size) (hc : w.cell? ⟨b, 0, none⟩ = some (.string nm)) :
    Calls Tryd.prog 41 #[.agg #[.string key, v0, v1, v2, v3, v4, v5], .pointer (some ⟨b, 0, none⟩)] w fun e w' => e = .returned (.bool (decide (key = nm))) ∧ Bel w w' := by
  have HE := Lib.hid (toList_beq key nm)
  go_enter Tryd.func41, Tryd.ntmps41
  go_wp2_with fail
  go_ret
  exact ⟨ret_bool HE.out, Bel.alloc _ _⟩
end Go.Proofs.YtmgnomahnndeaaaDoor
