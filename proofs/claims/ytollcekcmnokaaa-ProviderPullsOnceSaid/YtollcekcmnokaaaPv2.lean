/-
  Valid values: what Check's number says; sorting keeps a value valid.
-/
import Derived.Test.YtollcekcmnokaaaPv
import Derived.Test.YtollcekcmnokaaaChk9C
namespace Go.Proofs.Ytollcekcmnokaaa

theorem nodup_getD {l : List ByteArray} : l.Nodup ↔ ∀ i, i < l.length → ∀ j, j < i → l.getD j ByteArray.empty ≠ l.getD i ByteArray.empty := by
  unfold List.Nodup
  rw [List.pairwise_iff_getElem]
  constructor
  · intro h i hi j hj e
    refine h j i (by omega) hi hj ?_
    rw [List.getD_eq_getElem?_getD, List.getD_eq_getElem?_getD, List.getElem?_eq_getElem (by omega), List.getElem?_eq_getElem hi] at e
    simpa using e
  · intro h j i hj hi hji e
    refine h i hi j hji ?_
    rw [List.getD_eq_getElem?_getD, List.getD_eq_getElem?_getD, List.getElem?_eq_getElem hj, List.getElem?_eq_getElem hi, e]
theorem fieldN_zero {t : VT} {g : Nat → Int} {i : Nat} : fieldN t g i = 0 ↔ nameB (t.key i) = true ∧ t.twice i = false ∧ g i = 0 := by
  unfold fieldN
  cases h1 : nameB (t.key i) <;> cases h2 : t.twice i <;> simp
theorem twice_all {t : VT} (hl : t.ks.length = t.vs.length) : (∀ i, i < t.vs.length → t.twice i = false) ↔ t.ks.Nodup := by
  rw [nodup_getD, hl]
  constructor
  · intro h i hi j hj e
    have := h i hi
    unfold VT.twice at this
    exact (of_decide_eq_false this) ⟨j, hj, e⟩
  · intro h i hi
    unfold VT.twice
    apply decide_eq_false
    rintro ⟨j, hj, e⟩
    exact h i hi j hj e
theorem names_all {t : VT} (hl : t.ks.length = t.vs.length) : (∀ i, i < t.vs.length → nameB (t.key i) = true) ↔ ∀ key, key ∈ t.ks → nameB key = true := by
  constructor
  · intro h key hk
    obtain ⟨i, hi, rfl⟩ := List.getElem_of_mem hk
    have := h i (by omega)
    unfold VT.key at this
    rwa [List.getD_eq_getElem?_getD, List.getElem?_eq_getElem hi] at this
  · intro h i hi
    refine h _ ?_
    unfold VT.key
    rw [List.getD_eq_getElem?_getD, List.getElem?_eq_getElem (by omega)]
    exact List.getElem_mem _
theorem foreign_no {t : VT} : t.foreign = false ↔ (t.k ≠ 0 → t.s.size = 0) ∧ (t.k ≠ 1 → t.n = 0) ∧ (t.k ≠ 2 → t.b = false) ∧ (t.k ≠ 3 → t.xs.map VT.plain = []) ∧ (t.k ≠ 4 → t.vs.map VT.plain = []) := by
  unfold VT.foreign
  simp only [Bool.or_eq_false_iff, Bool.and_eq_false_iff, bne_eq_false_iff_eq, List.length_eq_zero_iff, List.map_eq_nil_iff]
  constructor
  · rintro ⟨⟨⟨⟨h1, h2⟩, h3⟩, h4⟩, h5⟩
    exact ⟨fun h => h1.resolve_left h, fun h => h2.resolve_left h, fun h => h3.resolve_left h, fun h => h4.resolve_left h, fun h => h5.resolve_left h⟩
  · rintro ⟨h1, h2, h3, h4, h5⟩
    refine ⟨⟨⟨⟨?_, ?_⟩, ?_⟩, ?_⟩, ?_⟩
    · by_cases h : t.k = 0; exact .inl h; exact .inr (h1 h)
    · by_cases h : t.k = 1; exact .inl h; exact .inr (h2 h)
    · by_cases h : t.k = 2; exact .inl h; exact .inr (h3 h)
    · by_cases h : t.k = 3; exact .inl h; exact .inr (h4 h)
    · by_cases h : t.k = 4; exact .inl h; exact .inr (h5 h)
theorem item_of_mem {t x : VT} (h : x ∈ t.xs) : ∃ i, i < t.xs.length ∧ t.item i = x := by
  obtain ⟨i, hi, rfl⟩ := List.getElem_of_mem h
  exact ⟨i, hi, by unfold VT.item; rw [List.getD_eq_getElem?_getD, List.getElem?_eq_getElem hi]; rfl⟩
theorem value_of_mem {t x : VT} (h : x ∈ t.vs) : ∃ i, i < t.vs.length ∧ t.value i = x := by
  obtain ⟨i, hi, rfl⟩ := List.getElem_of_mem h
  exact ⟨i, hi, by unfold VT.value; rw [List.getD_eq_getElem?_getD, List.getElem?_eq_getElem hi]; rfl⟩

/-- Check's number is 0 just for the valid values. -/
theorem chk_zero : ∀ (f : Nat) (t : VT) (d : Nat) (w : World) (Q : Nat → Prop), SizeOf.sizeOf t < f → t.In w Q → (VT.chk f t d = 0 ↔ t.plain.ok d) := by
  intro f
  induction f with
  | zero => intro t d w Q h; omega
  | succ f ih =>
    intro t d w Q hf hI
    have hl := hI.bounds.2.2.2.2.2.2.2
    rw [VT.plain_eq, PV.ok, PV.okL_iff, PV.okL_iff]
    have hx : (∀ i, i < t.xs.length → VT.chk f (t.item i) ((d : Int) + 1) = 0) ↔ ∀ x, x ∈ t.xs.map VT.plain → x.ok (d + 1) := by
      constructor
      · intro h x hx
        obtain ⟨y, hy, rfl⟩ := List.mem_map.1 hx
        obtain ⟨i, hi, rfl⟩ := item_of_mem hy
        exact (ih _ (d + 1) w Q (by have := VT.item_size hi; omega) (hI.item hi)).1 (h i hi)
      · intro h i hi
        exact (ih _ (d + 1) w Q (by have := VT.item_size hi; omega) (hI.item hi)).2 (h _ (List.mem_map_of_mem (VT.item_mem hi)))
    have hv : (∀ i, i < t.vs.length → VT.chk f (t.value i) ((d : Int) + 1) = 0) ↔ ∀ x, x ∈ t.vs.map VT.plain → x.ok (d + 1) := by
      constructor
      · intro h x hx
        obtain ⟨y, hy, rfl⟩ := List.mem_map.1 hx
        obtain ⟨i, hi, rfl⟩ := value_of_mem hy
        exact (ih _ (d + 1) w Q (by have := VT.value_size hi; omega) (hI.value hi)).1 (h i hi)
      · intro h i hi
        exact (ih _ (d + 1) w Q (by have := VT.value_size hi; omega) (hI.value hi)).2 (h _ (List.mem_map_of_mem (VT.value_mem hi)))
    by_cases h1 : (32 : Int) < d
    · rw [VT.chk_deep h1]
      constructor
      · intro h; exact absurd h (by decide)
      · rintro ⟨h, _⟩; omega
    by_cases h2 : t.k < 0 ∨ 4 < t.k
    · rw [VT.chk_kind h1 h2]
      constructor
      · intro h; exact absurd h (by decide)
      · rintro ⟨_, h, _⟩; omega
    cases h3 : t.foreign with
    | true =>
      rw [VT.chk_foreign h1 h2 h3]
      constructor
      · intro h; exact absurd h (by decide)
      · rintro ⟨_, _, a1, a2, a3, a4, a5, _⟩
        have := foreign_no.2 ⟨a1, a2, a3, a4, a5⟩
        rw [h3] at this
        cases this
    | false =>
      obtain ⟨a1, a2, a3, a4, a5⟩ := foreign_no.1 h3
      by_cases h4 : first (fun i => VT.chk f (t.item i) ((d : Int) + 1)) t.xs.length = 0
      · rw [VT.chk_fields h1 h2 h3 h4]
        constructor
        · intro h
          have hall := first_all h
          refine ⟨by omega, by omega, a1, a2, a3, a4, a5, by rw [List.length_map]; exact hl, (twice_all hl).1 fun i hi => (fieldN_zero.1 (hall i hi)).2.1, (names_all hl).1 fun i hi => (fieldN_zero.1 (hall i hi)).1,
            hx.1 (first_all h4), hv.1 fun i hi => (fieldN_zero.1 (hall i hi)).2.2⟩
        · rintro ⟨_, _, _, _, _, _, _, _, b1, b2, _, b3⟩
          exact first_zero fun i hi => fieldN_zero.2 ⟨(names_all hl).2 b2 i hi, (twice_all hl).2 b1 i hi, hv.2 b3 i hi⟩
      · rw [VT.chk_items h1 h2 h3 h4]
        constructor
        · intro h; exact absurd h h4
        · rintro ⟨_, _, _, _, _, _, _, _, _, _, b, _⟩
          exact absurd (first_zero (hx.2 b)) h4

theorem zip_fst : ∀ {ks : List ByteArray} {vs : List PV}, ks.length = vs.length → (ks.zip vs).map (·.1) = ks := by
  intro ks
  induction ks with
  | nil => intro vs _; simp
  | cons k ks ih =>
    intro vs h
    cases vs with
    | nil => simp at h
    | cons v vs => simp only [List.length_cons, Nat.add_right_cancel_iff] at h; simp [ih h]
theorem zip_snd : ∀ {ks : List ByteArray} {vs : List PV}, ks.length = vs.length → (ks.zip vs).map (·.2) = vs := by
  intro ks
  induction ks with
  | nil => intro vs h; simp at h; simp [List.length_eq_zero_iff.1 h.symm]
  | cons k ks ih =>
    intro vs h
    cases vs with
    | nil => simp at h
    | cons v vs => simp only [List.length_cons, Nat.add_right_cancel_iff] at h; simp [ih h]
mutual
theorem PV.sort_ok : ∀ (p : PV) (d : Nat), p.ok d → p.sort.ok d
  | .mk k s n b xs ks vs, d, h => by
    rw [PV.ok] at h
    obtain ⟨h1, h2, h3, h4, h5, h6, h7, h8, h9, h10, h11, h12⟩ := h
    rw [PV.sort, PV.ok]
    have i1 := PV.sortL_ok xs (d + 1) h11
    have i2 := PV.sortL_ok vs (d + 1) h12
    have hl : ks.length = (PV.sortL vs).length := by rw [PV.sortL_eq, List.length_map]; exact h8
    have hp := sortF_perm (ks.zip (PV.sortL vs))
    have e1 := zip_fst hl
    have e2 := zip_snd hl
    have p1 := hp.map (·.1)
    have p2 := hp.map (·.2)
    rw [e1] at p1
    rw [e2] at p2
    refine ⟨h1, h2, h3, h4, h5, fun hk => ?_, fun hk => ?_, by simp, p1.nodup_iff.2 h9, fun key hk => h10 key (p1.mem_iff.1 hk), i1, ?_⟩
    · rw [h6 hk, PV.sortL]
    · have e3 : PV.sortL vs = [] := by rw [h7 hk, PV.sortL]
      have p3 : ((sortF (ks.zip (PV.sortL vs))).map (·.2)).Perm [] := by rw [← e3]; exact p2
      exact p3.eq_nil
    · rw [PV.okL_iff] at i2 ⊢
      exact fun x hx => i2 x (p2.mem_iff.1 hx)
theorem PV.sortL_ok : ∀ (xs : List PV) (d : Nat), PV.okL xs d → PV.okL (PV.sortL xs) d
  | [], d, _ => by rw [PV.sortL, PV.okL]; trivial
  | x :: xs, d, h => by
    rw [PV.okL] at h
    rw [PV.sortL, PV.okL]
    exact ⟨PV.sort_ok x d h.1, PV.sortL_ok xs d h.2⟩
end
end Go.Proofs.Ytollcekcmnokaaa
