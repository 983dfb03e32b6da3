/-
  What a map of Go values converts to, key by key.
-/
import Derived.Test.YtmgnomahnndeaaaDoorAt
namespace Go.Proofs.YtmgnomahnndeaaaDoor
set_option linter.unusedVariables false

theorem idx_of_nodup {ks : List ByteArray} (hn : ks.Nodup) {i j : Nat} {k : ByteArray} (hi : ks[i]? = some k) (hj : ks[j]? = some k) : i = j := by
  obtain ⟨h1, e1⟩ := List.getElem?_eq_some_iff.1 hi
  obtain ⟨h2, e2⟩ := List.getElem?_eq_some_iff.1 hj
  exact (List.getElem_inj (h₀ := h1) (h₁ := h2) hn).1 (e1.trans e2.symm)
theorem findIdx_nodup {ks : List ByteArray} (hn : ks.Nodup) {i : Nat} (hi : i < ks.length) : ks.findIdx (fun x => decide (x = ks[i])) = i := by
  rw [List.findIdx_eq hi]
  refine ⟨by simp, fun j hj => ?_⟩
  simp only [decide_eq_false_iff_not]
  intro e
  have := (List.getElem_inj (h₀ := (by omega : j < ks.length)) (h₁ := hi) hn).1 e
  omega
/-- Fields in any order of the keys, each with its own value, are a permutation. -/
theorem zip_perm {ks K : List ByteArray} {ps qs : List PV} (hn : ks.Nodup) (hl : ks.length = ps.length) (hK : K.Perm ks) (hq : qs.length = K.length)
    (h : ∀ (i : Nat) (k : ByteArray) (q : PV), K[i]? = some k → qs[i]? = some q → ∃ j : Nat, ks[j]? = some k ∧ ps[j]? = some q) : (K.zip qs).Perm (ks.zip ps) := by
  let g : ByteArray → PV := fun k => ps.getD (ks.findIdx (fun x => decide (x = k))) (.mk 0 ByteArray.empty 0 false [] [] [])
  have e1 : ks.zip ps = ks.map fun k => (k, g k) := by
    apply List.ext_getElem?
    intro i
    rw [List.getElem?_map]
    by_cases hi : i < ks.length
    · rw [List.getElem?_eq_getElem (by rw [List.length_zip]; omega), List.getElem?_eq_getElem hi, List.getElem_zip]
      simp only [Option.map_some, Option.some.injEq, Prod.mk.injEq, true_and]
      show _ = ps.getD (ks.findIdx (fun x => decide (x = ks[i]))) _
      rw [findIdx_nodup hn hi, List.getD_eq_getElem?_getD, List.getElem?_eq_getElem (by omega)]
      rfl
    · rw [List.getElem?_eq_none (by rw [List.length_zip]; omega), List.getElem?_eq_none (by omega)]
      rfl
  have e2 : K.zip qs = K.map fun k => (k, g k) := by
    apply List.ext_getElem?
    intro i
    rw [List.getElem?_map]
    by_cases hi : i < K.length
    · rw [List.getElem?_eq_getElem (by rw [List.length_zip]; omega), List.getElem?_eq_getElem hi, List.getElem_zip]
      simp only [Option.map_some, Option.some.injEq, Prod.mk.injEq, true_and]
      obtain ⟨j, h1, h2⟩ := h i K[i] (qs[i]'(by omega)) (List.getElem?_eq_getElem hi) (List.getElem?_eq_getElem (by omega))
      obtain ⟨h3, h4⟩ := List.getElem?_eq_some_iff.1 h1
      show _ = ps.getD (ks.findIdx (fun x => decide (x = K[i]))) _
      rw [← h4, findIdx_nodup hn h3, List.getD_eq_getElem?_getD, h2]
      rfl
    · rw [List.getElem?_eq_none (by rw [List.length_zip]; omega), List.getElem?_eq_none (by omega)]
      rfl
  rw [e1, e2]
  exact hK.map _
theorem zip_sorted {K : List ByteArray} (h : K.Pairwise fun x y => kL x ≤ kL y) : ∀ qs : List PV, (K.zip qs).Pairwise fun x y => leF x y = true := by
  induction h with
  | nil => intro qs; simp
  | cons h1 _ ih =>
    intro qs
    cases qs with
    | nil => simp
    | cons q qs =>
      rw [List.zip_cons_cons, List.pairwise_cons]
      refine ⟨fun p hp => ?_, ih qs⟩
      have := h1 p.1 (List.of_mem_zip hp).1
      simpa [leF] using this
theorem conv_map_some {B : Nat} {ks : List ByteArray} {vs : List AT} {us : List VT} (hn : ks.Nodup) (hl : ks.length = vs.length) (hu : us.length = (sortK ks).length)
    (h : ∀ (i : Nat) (u : VT), us[i]? = some u → ∃ (j : Nat) (v : AT), ks[j]? = (sortK ks)[i]? ∧ vs[j]? = some v ∧ v.conv = some u.plain) :
    (AT.map B ks vs).conv = some (.mk 4 ByteArray.empty 0 false [] (sortK ks) (us.map VT.plain)) := by
  have hK := sortK_perm ks
  have hKl : (sortK ks).length = ks.length := hK.length_eq
  have hall : ∀ (j : Nat) (v : AT), vs[j]? = some v → ∃ p, v.conv = some p := by
    intro j v hv
    have hj := (List.getElem?_eq_some_iff.1 hv).1
    have hk := List.getElem?_eq_getElem (show j < ks.length by omega)
    obtain ⟨i, hi, hik⟩ := List.getElem_of_mem (hK.mem_iff.2 (List.getElem_mem (show j < ks.length by omega)))
    obtain ⟨j', v', h1, h2, h3⟩ := h i _ (List.getElem?_eq_getElem (show i < us.length by omega))
    rw [List.getElem?_eq_getElem hi, hik] at h1
    have hjj := idx_of_nodup hn h1 hk
    subst hjj
    rw [hv] at h2
    injection h2 with h2
    subst h2
    exact ⟨_, h3⟩
  obtain ⟨ps, hps⟩ : ∃ ps, AT.convL vs = some ps := by
    clear h hl
    induction vs with
    | nil => exact ⟨[], by rw [AT.convL]⟩
    | cons v vs ih =>
      obtain ⟨p, hp⟩ := hall 0 v rfl
      obtain ⟨ps, hps⟩ := ih (fun j w hw => hall (j + 1) w (by simpa using hw))
      exact ⟨p :: ps, by rw [AT.convL, hp, hps]⟩
  obtain ⟨hpl, hpi⟩ := AT.convL_some.1 hps
  have hperm : ((sortK ks).zip (us.map VT.plain)).Perm (ks.zip ps) := zip_perm hn (by omega) hK (by rw [List.length_map]; exact hu) (fun i k q hk hq => by
    rw [List.getElem?_map] at hq
    obtain ⟨u, hu', rfl⟩ := Option.map_eq_some_iff.1 hq
    obtain ⟨j, v, h1, h2, h3⟩ := h i u hu'
    exact ⟨j, by rw [h1, hk], by rw [← hpi j v h2, h3]⟩)
  have hsort := sortF_of hperm (by rw [zip_fst (by omega)]; exact hn) (zip_sorted (sortK_sorted ks) _)
  rw [AT.conv, hps]
  show some (AT.mapP ks ps) = _
  unfold AT.mapP
  rw [← hsort, zip_fst (by rw [List.length_map]; exact hu.symm), zip_snd (by rw [List.length_map]; exact hu.symm)]
theorem conv_map_none {B : Nat} {ks : List ByteArray} {vs : List AT} {j : Nat} {v : AT} (hv : vs[j]? = some v) (h : v.conv = none) : (AT.map B ks vs).conv = none := by
  rw [AT.conv, AT.convL_none hv h]; rfl
end Go.Proofs.YtmgnomahnndeaaaDoor
