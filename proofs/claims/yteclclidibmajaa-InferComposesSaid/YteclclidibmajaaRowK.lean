/-
  Slices of the call's own whose elements have z cells each: what they hold, a cut, a store, an append. No program is imported here.
-/
import Derived.Test.YteclclidibmajaaCuts
namespace Go.Proofs.Yteclclidibmajaa
open Go.RowKit

/-- '.slice A n c' holds the cells xs (z for each element), in a block that is known whole. -/
structure RowK (w : World) (e : TypeId) (z : Nat) (A : Option Addr) (n c : Nat) (xs : List Value) : Prop where
  len : xs.length = n * z
  le : n ≤ c
  max : c ≤ maxLen
  none_ : A = none → c = 0
  some_ : ∀ ad, A = some ad → ∃ g o cur, ad = ⟨g, o, none⟩ ∧ Blk w g e cur ∧ o + c * z ≤ cur.length ∧ (cur.drop o).take (n * z) = xs

section
variable {w w' : World} {e : TypeId} {z : Nat} {A : Option Addr} {n c : Nat} {xs : List Value}
theorem RowK.lt (h : RowK w e z A n c xs) : ∀ k, k ∈ rowT A → k < w.heap.size := by
  intro k hk
  obtain ⟨ad, rfl, rfl⟩ := mem_rowT.1 hk
  obtain ⟨g, o, cur, rfl, hb, _⟩ := h.some_ ad rfl
  exact hb.lt
theorem RowK.nil (w : World) (e : TypeId) (z : Nat) : RowK w e z none 0 0 [] := ⟨by simp, Nat.le_refl _, Nat.zero_le _, fun _ => rfl, fun _ h => by cases h⟩
theorem RowK.keep (h : RowK w e z A n c xs) (hk : ∀ k, k ∈ rowT A → w'.heap[k]? = w.heap[k]?) : RowK w' e z A n c xs :=
  ⟨h.len, h.le, h.max, h.none_, fun ad ha => by
    obtain ⟨g, o, cur, rfl, hb, h1, h2⟩ := h.some_ ad ha
    exact ⟨g, o, cur, rfl, (hk g (mem_rowT.2 ⟨_, ha, rfl⟩)).trans hb, h1, h2⟩⟩
theorem RowK.only {S : List Nat} (h : RowK w e z A n c xs) (ho : Only S w w') (hS : ∀ k, k ∈ rowT A → k ∉ S) : RowK w' e z A n c xs :=
  h.keep fun k hk => ho.block k (h.lt k hk) (hS k hk)
theorem RowK.below {B : Nat} (h : RowK w e z A n c xs) (hb : Below B w w') (hB : ∀ k, k ∈ rowT A → k < B) : RowK w' e z A n c xs :=
  h.keep fun k hk => hb.block k (hB k hk)
theorem RowK.alloc (h : RowK w e z A n c xs) (o : Obj) : RowK (w.alloc o) e z A n c xs := h.keep fun k hk => Below.heap_alloc _ _ _ (h.lt k hk)
theorem RowK.drew (h : RowK w e z A n c xs) : RowK w.drew e z A n c xs := h.keep fun _ _ => rfl
/-- A cell of the row. -/
theorem RowK.cell (h : RowK w e z A n c xs) {j : Nat} {u : Value} (hu : xs[j]? = some u) : ∃ g o, A = some ⟨g, o, none⟩ ∧ w.cell? ⟨g, o + j, none⟩ = some u := by
  have hj : j < n * z := by have := (List.getElem?_eq_some_iff.1 hu).1; have := h.len; omega
  cases hA : A with
  | none =>
    have h1 := h.none_ hA
    have h2 := h.le
    have h3 : n = 0 := by omega
    rw [h3, Nat.zero_mul] at hj
    omega
  | some ad =>
    obtain ⟨g, o, cur, rfl, hb, h1, h2⟩ := h.some_ ad hA
    refine ⟨g, o, rfl, ?_⟩
    rw [hb.cell]
    rw [← h2, List.getElem?_take, if_pos hj] at hu
    simpa using hu
/-- Its address, where there is an element. -/
theorem RowK.addr (h : RowK w e z A n c xs) (hn : 0 < c) : ∃ g o, A = some ⟨g, o, none⟩ ∧ g < w.heap.size ∧ ∀ j u, xs[j]? = some u → w.cell? ⟨g, o + j, none⟩ = some u := by
  cases hA : A with
  | none => have := h.none_ hA; omega
  | some ad =>
    obtain ⟨g, o, cur, rfl, hb, h1, h2⟩ := h.some_ ad hA
    refine ⟨g, o, rfl, hb.lt, fun j u hu => ?_⟩
    rw [hb.cell]
    rw [← h2, List.getElem?_take] at hu
    by_cases hj : j < n * z
    · rw [if_pos hj] at hu
      simpa using hu
    · rw [if_neg hj] at hu
      cases hu
/-- A cell may be written. -/
theorem RowK.free (h : RowK w e z A n c xs) {g o : Nat} (hA : A = some ⟨g, o, none⟩) (j : Nat) : w.frozen? ⟨g, j, none⟩ = false := by
  obtain ⟨g', o', cur, e1, hb, _⟩ := h.some_ _ hA
  injection e1 with e1 e2
  subst e1
  exact hb.free _
/-- 's[:k]'. -/
theorem RowK.first (h : RowK w e z A n c xs) (k : Nat) (hk : k ≤ n) : RowK w e z A k c (xs.take (k * z)) := by
  have hle := h.le
  have hkz : k * z ≤ n * z := Nat.mul_le_mul_right _ hk
  refine ⟨by rw [List.length_take, h.len]; omega, by omega, h.max, h.none_, fun ad hA => ?_⟩
  obtain ⟨g, o, cur, rfl, hb, h1, h2⟩ := h.some_ ad hA
  refine ⟨g, o, cur, rfl, hb, h1, ?_⟩
  rw [← h2, List.take_take, Nat.min_eq_left hkz]
/-- 's[k:]'. -/
theorem RowK.cut (h : RowK w e z A n c xs) (k : Nat) (hk : k ≤ n) : RowK w e z (cutA c k z A) (n - k) (c - k) (xs.drop (k * z)) := by
  have hle := h.le
  have hkz : k * z ≤ n * z := Nat.mul_le_mul_right _ hk
  have hnz : n * z ≤ c * z := Nat.mul_le_mul_right _ hle
  have hs1 : (n - k) * z = n * z - k * z := Nat.sub_mul _ _ _
  have hs2 : (c - k) * z = c * z - k * z := Nat.sub_mul _ _ _
  refine ⟨by rw [List.length_drop, h.len, hs1], by omega, by have := h.max; omega, fun hA => ?_, fun ad hA => ?_⟩
  · unfold cutA at hA
    split at hA
    · omega
    · cases hB : A with
      | none => have := h.none_ hB; omega
      | some ad => rw [hB] at hA; simp at hA
  · unfold cutA at hA
    split at hA
    · rename_i hck
      obtain ⟨g, o, cur, rfl, hb, h1, h2⟩ := h.some_ ad hA
      refine ⟨g, o, cur, rfl, hb, ?_, ?_⟩
      · rw [hs2]; omega
      · have hnk : n - k = 0 := by omega
        rw [hnk, Nat.zero_mul, List.take_zero, List.drop_of_length_le]
        rw [h.len]
        have : n ≤ k := by omega
        exact Nat.mul_le_mul_right _ this
    · cases hB : A with
      | none => rw [hB] at hA; simp at hA
      | some ad' =>
        rw [hB] at hA
        simp at hA
        obtain ⟨g, o, cur, rfl, hb, h1, h2⟩ := h.some_ ad' hB
        subst hA
        refine ⟨g, o + k * z, cur, by rw [add_at], hb, by rw [hs2]; omega, ?_⟩
        rw [← h2, List.drop_take, List.drop_drop, hs1]
/-- A block that is known whole, from its start. -/
theorem RowK.of_blk {g : Nat} {cs : List Value} (h : Blk w g e cs) (m : Nat) (hl : cs.length = m * z) (hm : m ≤ maxLen) : RowK w e z (some ⟨g, 0, none⟩) m m cs :=
  ⟨hl, Nat.le_refl _, hm, (fun h => by cases h), fun ad ha => by injection ha with ha; subst ha; exact ⟨g, 0, cs, rfl, h, by omega, by rw [List.drop_zero, ← hl, List.take_length]⟩⟩
/-- A block that is known whole, of which nothing counts yet. -/
theorem RowK.of_room {g : Nat} {cs : List Value} (h : Blk w g e cs) (m : Nat) (hl : cs.length = m * z) (hm : m ≤ maxLen) : RowK w e z (some ⟨g, 0, none⟩) 0 m [] :=
  ⟨by simp, Nat.zero_le _, hm, (fun h => by cases h), fun ad ha => by injection ha with ha; subst ha; exact ⟨g, 0, cs, rfl, h, by omega, by simp⟩⟩
/-- A cell is written. -/
theorem RowK.set_ (h : RowK w e z A n c xs) {g o : Nat} (hA : A = some ⟨g, o, none⟩) (j : Nat) (hj : j < n * z) (v : Value) : RowK (w.setCell ⟨g, o + j, none⟩ v) e z A n c (xs.set j v) := by
  refine ⟨by rw [List.length_set]; exact h.len, h.le, h.max, h.none_, fun ad ha => ?_⟩
  obtain ⟨g', o', cur, rfl, hb, h1, h2⟩ := h.some_ ad ha
  rw [hA] at ha
  injection ha with ha
  injection ha with e1 e2
  subst e1 e2
  refine ⟨g, o, cur.set (o + j) v, rfl, hb.set_ _ v, by rw [List.length_set]; exact h1, ?_⟩
  rw [← h2]
  apply List.ext_getElem?
  intro i
  rw [List.getElem?_take, List.getElem?_drop, List.getElem?_set]
  have hn : n * z ≤ c * z := Nat.mul_le_mul_right _ h.le
  by_cases hi : i < n * z
  · rw [if_pos hi]
    by_cases e : o + j = o + i
    · have : j = i := by omega
      subst this
      rw [if_pos rfl, if_pos (by omega), List.getElem?_set_self (by rw [List.length_take, List.length_drop]; omega)]
    · rw [if_neg e, List.getElem?_set_ne (by omega), List.getElem?_take, if_pos hi, List.getElem?_drop]
  · rw [if_neg hi, List.getElem?_eq_none (by rw [List.length_set, List.length_take]; omega)]
end

/-- The row that an append makes. -/
theorem rowK_of_own {w : World} {base : Nat} {e : TypeId} {z : Nat} {v : Value} {n : Nat} {xs : List Value} (h : w.ownsRow base e z v n xs) :
    ∃ A c, v = .slice A n c ∧ RowK w e z A n c xs ∧ ∀ k, k ∈ rowT A → base ≤ k := by
  obtain ⟨hl, h2⟩ := h
  rcases h2 with ⟨rfl, rfl⟩ | ⟨g, cap, cur, rfl, hb, hg, hnc, hcm, hcs, htk⟩
  · rw [Nat.zero_mul] at hl
    obtain rfl := List.eq_nil_of_length_eq_zero hl
    exact ⟨none, 0, rfl, RowK.nil _ _ _, fun k hk => by simp [rowT_none] at hk⟩
  · refine ⟨_, cap, rfl, ⟨hl, hnc, hcm, (fun h => by cases h), fun ad ha => ?_⟩, fun k hk => ?_⟩
    · injection ha with ha
      subst ha
      refine ⟨g, 0, cur.toList, rfl, ?_, ?_, ?_⟩
      · unfold Blk
        exact hg
      · rw [Array.length_toList, hcs]; omega
      · rw [List.drop_zero]; exact htk
    · rw [rowT_some] at hk
      simp at hk
      subst hk
      exact hb

section
variable {P : Program} {w : World}
theorem rowK_append {t e : TypeId} (ty : TypeId) {i : TypeInfo} {zv : Value} {z bytes : Nat} (ht : P.underlying t = some (.slice e)) (hi : P.info? e = some i) (hz : i.zero = some zv)
    (hsize : i.size = z) (hby : i.bytes = bytes) (hzs : zv.cells.size = z) (hz0 : 0 < z) {A : Option Addr} {n c : Nat} {xs : List Value} (hA : RowK w e z A n c xs)
    {X : Option Addr} {m : Nat} (d : Nat) {news : List Value} (hnl : news.length = m * z) (hr : 0 < m → ∃ ad, X = some ad ∧ ∀ j u, news[j]? = some u → w.cell? (ad.add j) = some u) (h1 : ∀ u ∈ news, u.oneCell' = true)
    (h63 : n + m ≤ maxLen) (hbytes : (n + m) * bytes ≤ 140737488355328) :
    ∃ A' c' w', (Builtin.append_ #[t, t] ty #[.slice A n c, .slice X m d]).run P w = .ok (.slice A' (n + m) c') w' ∧ RowK w' e z A' (n + m) c' (xs ++ news) ∧ Only (rowT A) w w' ∧
      ∀ k, k ∈ rowT A' → k ∈ rowT A ∨ k = w.heap.size := by
  rcases X with _ | ad
  · have hm : m = 0 := by
      rcases Nat.eq_zero_or_pos m with h0 | h0
      · exact h0
      · obtain ⟨_, e1, _⟩ := hr h0
        cases e1
    subst hm
    rw [Nat.zero_mul] at hnl
    obtain rfl : news = [] := List.eq_nil_of_length_eq_zero hnl
    refine ⟨A, c, w, ?_, by simpa using hA, Only.refl _ _, fun k hk => .inl hk⟩
    have hle := hA.le
    cases A with
    | none =>
      have hc := hA.none_ rfl
      subst hc
      have hn : n = 0 := by omega
      subst hn
      simp [Builtin.append_, run_underlying ht, sizeOf, typeInfo, hi, Builtin.lenOf, Builtin.firstCells]
    | some ad => simp [Builtin.append_, run_underlying ht, sizeOf, typeInfo, hi, Builtin.lenOf, Builtin.firstCells, hle, storeCells]
  · have hcells : ∀ j u, news[j]? = some u → w.cell? (ad.add j) = some u := by
      intro j u hu
      rcases Nat.eq_zero_or_pos m with h0 | h0
      · subst h0
        rw [Nat.zero_mul] at hnl
        obtain rfl : news = [] := List.eq_nil_of_length_eq_zero hnl
        simp at hu
      · obtain ⟨ad', e1, hc⟩ := hr h0
        injection e1 with e1
        subst e1
        exact hc j u hu
    cases A with
    | none =>
      have hc := hA.none_ rfl
      subst hc
      have hn : n = 0 := by have := hA.le; omega
      subst hn
      have hx0 : xs = [] := List.eq_nil_of_length_eq_zero (by rw [hA.len, Nat.zero_mul])
      subst hx0
      obtain ⟨v', w', hrun, r1, r2, _, r3⟩ := run_append_own_at (P := P) w w.heap.size t ty e i zv z bytes ht hi hz hsize hby hzs hz0 (.slice none 0 0) 0 [] (World.ownsRow_nil w _ e z) ad m d news hnl hcells h1 h63 hbytes (Nat.le_refl _)
      obtain ⟨A', c', rfl, hR, hk⟩ := rowK_of_own r1
      refine ⟨A', c', w', hrun, hR, (Only.refl _ w).grown r2 (fun k hk => by simp [Value.ownBlock] at hk), fun k hk' => .inr ?_⟩
      obtain ⟨ad', rfl, rfl⟩ := mem_rowT.1 hk'
      simpa [Value.ownBlock] using r3
    | some b =>
      obtain ⟨g, o, cur, rfl, hb, hfit, hxs⟩ := hA.some_ b rfl
      by_cases hroom : n + m ≤ c
      · have hnm : n * z + m * z ≤ c * z := by rw [← Nat.add_mul]; exact Nat.mul_le_mul_right _ hroom
        have hc0 : ∀ j, j < news.length → (w.cell? ⟨g, o + n * i.size + j, none⟩).isSome = true := by
          intro j hj
          rw [hb.cell, hsize, List.getElem?_eq_getElem (by rw [hnl] at hj; omega)]
          rfl
        have hrun := run_append_room_cells (P := P) w t ty e i ht hi g o n c ad m d news (by rw [hsize]; exact hnl) hcells h1 hroom hc0 (fun j _ => hb.free _)
        rw [hsize] at hrun
        have hfit2 : o + n * z + news.length ≤ cur.length := by rw [hnl]; omega
        have hb2 := cell_setCells_blk news cur (o + n * z) hb hfit2
        refine ⟨_, c, _, hrun, ⟨by rw [List.length_append, hA.len, hnl, Nat.add_mul], hroom, hA.max, (fun h => by cases h), fun ad' h' => ?_⟩, only_setCells _ _ _ _, fun k hk => .inl hk⟩
        injection h' with h'
        subst h'
        refine ⟨g, o, _, rfl, hb2, by rw [length_splice _ _ _ hfit2]; exact hfit, ?_⟩
        apply List.ext_getElem?
        intro j
        rw [List.getElem?_take, List.getElem?_drop, splice_getElem? _ _ _ hfit2, List.getElem?_append, hA.len, Nat.add_mul]
        by_cases h2 : j < n * z
        · rw [if_pos (by omega), if_neg (by omega), if_pos h2, ← hxs, List.getElem?_take, if_pos h2, List.getElem?_drop]
        · rw [if_neg h2]
          by_cases h3 : j < n * z + m * z
          · rw [if_pos h3, if_pos (by rw [hnl]; omega)]
            congr 1; omega
          · rw [if_neg h3, List.getElem?_eq_none (by rw [hnl]; omega)]
      · have holds : ∀ j u, xs[j]? = some u → w.cell? ((⟨g, o, none⟩ : Addr).add j) = some u := by
          intro j u hu
          obtain ⟨g', o', e1, hc⟩ := hA.cell hu
          injection e1 with e1
          injection e1 with e1 e2
          subst e1 e2
          rw [add_at]
          exact hc
        subst hby
        have hge := grownCap_ge w (n + m) c e
        have hcm : grownCap w (n + m) c e ≤ maxLen := grownCap_le_maxLen w (n + m) c e h63
        have hsmall : n + m ≤ 9223372036854775807 := by simp only [maxLen] at h63; omega
        have hlen : (xs ++ news).length = (n + m) * z := by rw [List.length_append, hA.len, hnl, Nat.add_mul]
        have hrun := run_append_grow (P := P) w t ty e i zv ht hi hz ⟨g, o, none⟩ n c xs (by rw [hA.len, hsize]) holds ad m d news (by rw [hsize]; exact hnl) hcells (by omega) (by omega) (growslice_fits (by omega) hbytes)
        refine ⟨_, _, _, hrun, ⟨hlen, hge, hcm, (fun h => by cases h), fun ad' h' => ?_⟩, ⟨rfl, rfl, rfl, by simp, fun k hk _ => Below.heap_alloc w.drew _ k hk⟩, fun k hk => .inr (by simpa [rowT_some] using hk)⟩
        injection h' with h'
        subst h'
        refine ⟨w.heap.size, 0, xs ++ news ++ (Builtin.zeroCells zv.cells (grownCap w (n + m) c e - (n + m))).toList, rfl, ?_, ?_, ?_⟩
        · have := heap_alloc_new w.drew (.cells (xs.toArray ++ news.toArray ++ Builtin.zeroCells zv.cells (grownCap w (n + m) c e - (n + m))) e)
          unfold Blk
          refine this.trans ?_
          congr 2
          apply Array.ext'
          simp
        · have hzl : (Builtin.zeroCells zv.cells (grownCap w (n + m) c e - (n + m))).toList.length = (grownCap w (n + m) c e - (n + m)) * z := by
            rw [Array.length_toList, size_zeroCells, hzs]
          have hmul : (n + m) * z ≤ grownCap w (n + m) c e * z := Nat.mul_le_mul_right _ hge
          rw [List.length_append, hlen, hzl, Nat.sub_mul]
          omega
        · rw [List.drop_zero, ← hlen, List.take_left]

variable {ops : Array Oper} {rest : List Oper} {o : Oper} {a : Act} {Q : Exit → Act → World → Prop}
/-- The same at the operation; N is the new length. -/
theorem wp_rowKAppend (hgd : o.guard = none) (s x : Operand) (t : TypeId) (ho : o.op = .call { callee := .builtin .append, args := #[s, x], argTypes := #[t, t] })
    (e : TypeId) (i : TypeInfo) (zv : Value) (z bytes : Nat) (ht : P.underlying t = some (.slice e)) (hi : P.info? e = some i) (hz : i.zero = some zv)
    (hsize : i.size = z) (hby : i.bytes = bytes) (hzs : zv.cells.size = z) (hz0 : 0 < z) (A : Option Addr) (n c : Nat) (xs : List Value) (hs : a.eval s = .slice A n c) (hA : RowK w e z A n c xs)
    (X : Option Addr) (m d : Nat) (news : List Value) (hx : a.eval x = .slice X m d) (hnl : news.length = m * z) (hr : 0 < m → ∃ ad, X = some ad ∧ ∀ j u, news[j]? = some u → w.cell? (ad.add j) = some u) (h1 : ∀ u ∈ news, u.oneCell' = true)
    (h63 : n + m ≤ maxLen) (hbytes : (n + m) * bytes ≤ 140737488355328) (N : Nat) (hN : N = n + m)
    (h : ∀ A' c' w', Hid (RowK w' e z A' N c' (xs ++ news)) → Only (rowT A) w w' → Hid (∀ k, k ∈ rowT A' → k ∈ rowT A ∨ k = w.heap.size) → wpList P ops Q rest (a.put o.dst (.slice A' N c')) w') :
    wpList P ops Q (o :: rest) a w := by
  subst hN
  refine wpList_plain hgd fun K hK => ?_
  obtain ⟨A', c', w', hrun, h2, h3, h4⟩ := rowK_append (P := P) o.type ht hi hz hsize hby hzs hz0 hA d hnl hr h1 h63 hbytes
  unfold Oper.wp execOp
  simp only [ho, resolve, invoke, builtin, Sem.run_bind, Sem.run_pure, Result.andThen_ok, List.map_toArray, List.map_cons, List.map_nil, hs, hx, hrun]
  exact hK _ _ (h A' c' w' (Lib.hid h2) h3 (Lib.hid h4))
end
end Go.Proofs.Yteclclidibmajaa
