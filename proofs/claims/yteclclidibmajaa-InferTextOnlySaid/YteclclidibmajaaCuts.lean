/-
  Slices of the call's own at any place of their block: what they hold, a cut, an append.
-/
import Derived.Test.YteclclidibmajaaBase
import Derived.ArgAppend
import Derived.Maps.AppendAt
namespace Go.Proofs.Yteclclidibmajaa
open Go.RowKit

/-- The blocks to which an address leads. -/
def rowT (A : Option Addr) : List Nat := (A.map (·.block)).toList
theorem mem_rowT {A : Option Addr} {k : Nat} : k ∈ rowT A ↔ ∃ ad, A = some ad ∧ ad.block = k := by
  unfold rowT
  cases A <;> simp [eq_comm]
theorem rowT_none : rowT none = [] := rfl
theorem rowT_some (ad : Addr) : rowT (some ad) = [ad.block] := rfl

/-- '.slice A n c' holds the cells xs, in a block that is known whole, of elements of one cell each. -/
structure RowAt (w : World) (e : TypeId) (A : Option Addr) (n c : Nat) (xs : List Value) : Prop where
  len : xs.length = n
  le : n ≤ c
  max : c ≤ maxLen
  none_ : A = none → c = 0
  some_ : ∀ ad, A = some ad → ∃ g o cur, ad = ⟨g, o, none⟩ ∧ Blk w g e cur ∧ o + c ≤ cur.length ∧ (cur.drop o).take n = xs

section
variable {w w' : World} {e : TypeId} {A : Option Addr} {n c : Nat} {xs : List Value}
theorem RowAt.lt (h : RowAt w e A n c xs) : ∀ k, k ∈ rowT A → k < w.heap.size := by
  intro k hk
  obtain ⟨ad, rfl, rfl⟩ := mem_rowT.1 hk
  obtain ⟨g, o, cur, rfl, hb, _⟩ := h.some_ ad rfl
  exact hb.lt
theorem RowAt.nil (w : World) (e : TypeId) : RowAt w e none 0 0 [] := ⟨rfl, Nat.le_refl _, Nat.zero_le _, fun _ => rfl, fun _ h => by cases h⟩
theorem RowAt.keep (h : RowAt w e A n c xs) (hk : ∀ k, k ∈ rowT A → w'.heap[k]? = w.heap[k]?) : RowAt w' e A n c xs :=
  ⟨h.len, h.le, h.max, h.none_, fun ad ha => by
    obtain ⟨g, o, cur, rfl, hb, h1, h2⟩ := h.some_ ad ha
    exact ⟨g, o, cur, rfl, (hk g (mem_rowT.2 ⟨_, ha, rfl⟩)).trans hb, h1, h2⟩⟩
theorem RowAt.only {S : List Nat} (h : RowAt w e A n c xs) (ho : Only S w w') (hS : ∀ k, k ∈ rowT A → k ∉ S) : RowAt w' e A n c xs :=
  h.keep fun k hk => ho.block k (h.lt k hk) (hS k hk)
theorem RowAt.alloc (h : RowAt w e A n c xs) (o : Obj) : RowAt (w.alloc o) e A n c xs := h.keep fun k hk => Below.heap_alloc _ _ _ (h.lt k hk)
theorem RowAt.drewN (h : RowAt w e A n c xs) (k : Nat) : RowAt (w.drewN k) e A n c xs := h.keep fun _ _ => rfl
theorem RowAt.far (h : RowAt w e A n c xs) {p : Addr} (hp : p.block ∉ rowT A) (u : Value) : RowAt (w.setCell p u) e A n c xs :=
  h.keep fun k hk => Below.heap_setCell _ _ _ _ (by rintro rfl; exact hp hk)
theorem RowAt.ne {e' : TypeId} {A' : Option Addr} {n' c' : Nat} {xs' : List Value} (h : RowAt w e A n c xs) (h' : RowAt w e' A' n' c' xs') (hne : e ≠ e') : ∀ k, k ∈ rowT A → k ∉ rowT A' := by
  intro k hk hk'
  obtain ⟨ad, rfl, rfl⟩ := mem_rowT.1 hk
  obtain ⟨ad', rfl, he⟩ := mem_rowT.1 hk'
  obtain ⟨g, o, cur, rfl, hb, _⟩ := h.some_ ad rfl
  obtain ⟨g', o', cur', rfl, hb', _⟩ := h'.some_ ad' rfl
  simp at he
  subst he
  exact hb.ne_ hb' hne rfl
theorem RowAt.ne_blk {g : Nat} {t : TypeId} {cs : List Value} (h : RowAt w e A n c xs) (h' : Blk w g t cs) (hne : t ≠ e) : g ∉ rowT A := by
  intro hk
  obtain ⟨ad, rfl, hg⟩ := mem_rowT.1 hk
  obtain ⟨g', o, cur, rfl, hb, _⟩ := h.some_ ad rfl
  simp at hg
  subst hg
  exact h'.ne_ hb hne rfl
theorem RowAt.reads (h : RowAt w e A n c xs) : Reads w w.heap.size A n xs := by
  refine ⟨h.len, fun hn => ?_⟩
  cases hA : A with
  | none => have := h.none_ hA; have := h.le; omega
  | some ad =>
    obtain ⟨g, o, cur, rfl, hb, h1, h2⟩ := h.some_ ad hA
    refine ⟨_, rfl, hb.lt, fun j u hu => ?_⟩
    rw [add_at, hb.cell]
    rw [← h2, List.getElem?_take] at hu
    split at hu
    · simpa using hu
    · cases hu
theorem RowAt.cell (h : RowAt w e A n c xs) {j : Nat} {u : Value} (hu : xs[j]? = some u) : ∃ g o, A = some ⟨g, o, none⟩ ∧ w.cell? ⟨g, o + j, none⟩ = some u := by
  have hj : j < n := by have := (List.getElem?_eq_some_iff.1 hu).1; have := h.len; omega
  obtain ⟨g, o, rfl, _, hc⟩ := h.reads.plain (by omega)
  exact ⟨g, o, rfl, hc j u hu⟩
/-- 's[k:]'. -/
theorem RowAt.cut (h : RowAt w e A n c xs) (k : Nat) (hk : k ≤ n) : RowAt w e (cutA c k 1 A) (n - k) (c - k) (xs.drop k) := by
  have hle := h.le
  refine ⟨by simp; have := h.len; omega, by omega, by have := h.max; omega, fun hA => ?_, fun ad hA => ?_⟩
  · unfold cutA at hA
    split at hA
    · omega
    · cases hB : A with
      | none => have := h.none_ hB; omega
      | some ad => rw [hB] at hA; simp at hA
  · unfold cutA at hA
    split at hA
    · obtain ⟨g, o, cur, rfl, hb, h1, h2⟩ := h.some_ ad hA
      refine ⟨g, o, cur, rfl, hb, by omega, ?_⟩
      have : n - k = 0 := by omega
      rw [this, List.take_zero, List.drop_of_length_le (by have := h.len; omega)]
    · cases hB : A with
      | none => rw [hB] at hA; simp at hA
      | some ad' =>
        rw [hB] at hA
        simp at hA
        obtain ⟨g, o, cur, rfl, hb, h1, h2⟩ := h.some_ ad' hB
        subst hA
        refine ⟨g, o + k, cur, by rw [add_at], hb, by omega, ?_⟩
        rw [← h2, List.drop_take, List.drop_drop]
theorem rowT_cut (c k s : Nat) (A : Option Addr) : rowT (cutA c k s A) = rowT A := by
  unfold cutA
  split
  · rfl
  · cases A with
    | none => rfl
    | some ad => simp [rowT, block_add]
/-- 's[:k]'. -/
theorem RowAt.first (h : RowAt w e A n c xs) (k : Nat) (hk : k ≤ n) : RowAt w e A k c (xs.take k) := by
  have hle := h.le
  refine ⟨by simp; have := h.len; omega, by omega, h.max, h.none_, fun ad hA => ?_⟩
  obtain ⟨g, o, cur, rfl, hb, h1, h2⟩ := h.some_ ad hA
  refine ⟨g, o, cur, rfl, hb, h1, ?_⟩
  rw [← h2, List.take_take, Nat.min_eq_left hk]
/-- A block that is known whole, from its start. -/
theorem RowAt.of_blk {g : Nat} {cs : List Value} (h : Blk w g e cs) (hm : cs.length ≤ maxLen) : RowAt w e (some ⟨g, 0, none⟩) cs.length cs.length cs :=
  ⟨rfl, Nat.le_refl _, hm, (fun h => by cases h), fun ad ha => by injection ha with ha; subst ha; exact ⟨g, 0, cs, rfl, h, by simp, by simp⟩⟩
end

theorem cell_setCells_blk {w : World} {g : Nat} {t : TypeId} : ∀ (vs : List Value) (cs : List Value) (o : Nat), Blk w g t cs → o + vs.length ≤ cs.length → Blk (w.setCells g o vs) g t (splice cs o vs)
  | [], cs, o, h, _ => by simpa [World.setCells, splice] using h
  | v :: r, cs, o, h, hl => by
    rw [World.setCells]
    simp only [List.length_cons] at hl
    have h1 := h.set_ o v
    have h2 := cell_setCells_blk r (cs.set o v) (o + 1) h1 (by simp; omega)
    have e : splice cs o (v :: r) = splice (cs.set o v) (o + 1) r := by
      apply List.ext_getElem?
      intro j
      rw [splice_getElem? _ _ _ (by simp; omega), splice_getElem? _ _ _ (by simp; omega)]
      simp only [List.length_cons]
      by_cases h3 : o ≤ j ∧ j < o + (r.length + 1)
      · rw [if_pos h3]
        by_cases h4 : j = o
        · subst h4
          rw [if_neg (by omega), List.getElem?_set_self (by omega)]
          simp
        · rw [if_pos (by omega), show j - o = (j - (o + 1)) + 1 by omega, List.getElem?_cons_succ]
      · rw [if_neg h3, if_neg (by omega), List.getElem?_set_ne (by omega)]
    rw [e]
    exact h2
theorem only_setCells (w : World) (g o : Nat) (vs : List Value) : Only [g] w (w.setCells g o vs) := by
  induction vs generalizing w o with
  | nil => exact Only.refl _ _
  | cons v r ih =>
    rw [World.setCells]
    exact ((Only.refl [g] w).setCell (.inl (by simp)) v).trans (ih _ _)

/-- The row that an append makes. -/
theorem row_of_own {w : World} {base : Nat} {e : TypeId} {v : Value} {n : Nat} {xs : List Value} (h : w.ownsRow base e 1 v n xs) :
    ∃ A c, v = .slice A n c ∧ RowAt w e A n c xs ∧ ∀ k, k ∈ rowT A → base ≤ k := by
  obtain ⟨A, c, rfl, h1, h2, h3, h4, h5⟩ := Reads.of_own h
  refine ⟨A, c, rfl, ⟨h3.1, h1, h2, fun hA => ?_, fun ad hA => ?_⟩, fun k hk => ?_⟩
  · rcases h.2 with ⟨hv, _⟩ | ⟨g, cap, cur, hv, _⟩
    · injection hv
    · injection hv with hv
      rw [hA] at hv
      cases hv
  · obtain ⟨e1, _, _, cur, hb, hl, ht⟩ := h4 ad hA
    exact ⟨ad.block, 0, cur, e1, hb, by omega, by simpa using ht⟩
  · obtain ⟨ad, hA, rfl⟩ := mem_rowT.1 hk
    exact (h4 ad hA).2.1

section
variable {P : Program} {w : World}
theorem row_append_at {t e : TypeId} (ty : TypeId) {i : TypeInfo} {z : Value} {bytes : Nat} (ht : P.underlying t = some (.slice e)) (hi : P.info? e = some i) (hz : i.zero = some z)
    (hsize : i.size = 1) (hby : i.bytes = bytes) (hzs : z.cells.size = 1) {A : Option Addr} {n c : Nat} {xs : List Value} (hA : RowAt w e A n c xs)
    {B : Nat} {X : Option Addr} {m : Nat} (d : Nat) {news : List Value} (hr : Reads w B X m news) (h1 : ∀ u ∈ news, u.oneCell' = true)
    (h63 : n + m ≤ maxLen) (hbytes : (n + m) * bytes ≤ 140737488355328) :
    ∃ A' c' w', (Builtin.append_ #[t, t] ty #[.slice A n c, .slice X m d]).run P w = .ok (.slice A' (n + m) c') w' ∧ RowAt w' e A' (n + m) c' (xs ++ news) ∧ Only (rowT A) w w' ∧
      ∀ k, k ∈ rowT A' → k ∈ rowT A ∨ k = w.heap.size := by
  rcases X with _ | ad
  · have hm : m = 0 := by
      rcases Nat.eq_zero_or_pos m with h0 | h0
      · exact h0
      · obtain ⟨_, e1, _⟩ := hr.2 h0
        cases e1
    subst hm
    obtain rfl : news = [] := List.eq_nil_of_length_eq_zero hr.1
    refine ⟨A, c, w, ?_, by simpa using hA, Only.refl _ _, fun k hk => .inl hk⟩
    have hle := hA.le
    cases A with
    | none =>
      have hc := hA.none_ rfl
      subst hc
      have hn : n = 0 := by omega
      subst hn
      simp [Builtin.append_, run_underlying ht, sizeOf, typeInfo, hi, Builtin.lenOf, Builtin.firstCells]
    | some ad => simp [Builtin.append_, run_underlying ht, sizeOf, typeInfo, hi, Builtin.lenOf, Builtin.firstCells, hle, storeCells]
  · have hcells : ∀ j u, news[j]? = some u → w.cell? (ad.add j) = some u := by
      intro j u hu
      rcases Nat.eq_zero_or_pos m with h0 | h0
      · subst h0
        obtain rfl : news = [] := List.eq_nil_of_length_eq_zero hr.1
        simp at hu
      · obtain ⟨ad', e1, _, hc⟩ := hr.2 h0
        injection e1 with e1
        subst e1
        exact hc j u hu
    have hnl : news.length = m * 1 := by rw [hr.1, Nat.mul_one]
    cases A with
    | none =>
      have hc := hA.none_ rfl
      subst hc
      have hn : n = 0 := by have := hA.le; omega
      subst hn
      obtain rfl : xs = [] := List.eq_nil_of_length_eq_zero hA.len
      obtain ⟨v', w', hrun, r1, r2, _, r3⟩ := run_append_own_at (P := P) w w.heap.size t ty e i z 1 bytes ht hi hz hsize hby hzs (by omega) (.slice none 0 0) 0 [] (World.ownsRow_nil w _ e 1) ad m d news hnl hcells h1 h63 hbytes (Nat.le_refl _)
      obtain ⟨A', c', rfl, hR, hk⟩ := row_of_own r1
      refine ⟨A', c', w', hrun, hR, (Only.refl _ w).grown r2 (fun k hk => by simp [Value.ownBlock] at hk), fun k hk' => .inr ?_⟩
      obtain ⟨ad', rfl, rfl⟩ := mem_rowT.1 hk'
      simpa [Value.ownBlock] using r3
    | some b =>
      obtain ⟨g, o, cur, rfl, hb, hfit, hxs⟩ := hA.some_ b rfl
      by_cases hroom : n + m ≤ c
      · have hc0 : ∀ j, j < news.length → (w.cell? ⟨g, o + n * i.size + j, none⟩).isSome = true := by
          intro j hj
          rw [hb.cell, hsize, Nat.mul_one, List.getElem?_eq_getElem (by rw [hr.1] at hj; omega)]
          rfl
        have hrun := run_append_room_cells (P := P) w t ty e i ht hi g o n c ad m d news (by rw [hsize]; exact hnl) hcells h1 hroom hc0 (fun j _ => hb.free _)
        rw [hsize, Nat.mul_one] at hrun
        have hfit2 : o + n + news.length ≤ cur.length := by rw [hr.1]; omega
        have hb2 := cell_setCells_blk news cur (o + n) hb hfit2
        refine ⟨_, c, _, hrun, ⟨by simp [hA.len, hr.1], hroom, hA.max, (fun h => by cases h), fun ad' h' => ?_⟩, only_setCells _ _ _ _, fun k hk => .inl hk⟩
        injection h' with h'
        subst h'
        refine ⟨g, o, _, rfl, hb2, by rw [length_splice _ _ _ hfit2]; exact hfit, ?_⟩
        apply List.ext_getElem?
        intro j
        rw [List.getElem?_take, List.getElem?_drop, splice_getElem? _ _ _ hfit2, List.getElem?_append, hA.len]
        by_cases h2 : j < n
        · rw [if_pos (by omega), if_neg (by omega), if_pos h2, ← hxs, List.getElem?_take, if_pos h2, List.getElem?_drop]
        · rw [if_neg h2]
          by_cases h3 : j < n + m
          · rw [if_pos h3, if_pos (by rw [hr.1]; omega)]
            congr 1; omega
          · rw [if_neg h3, List.getElem?_eq_none (by rw [hr.1]; omega)]
      · have holds : ∀ j u, xs[j]? = some u → w.cell? ((⟨g, o, none⟩ : Addr).add j) = some u := by
          intro j u hu
          have hj : j < n := by have := (List.getElem?_eq_some_iff.1 hu).1; have := hA.len; omega
          obtain ⟨ad', e1, _, hc⟩ := hA.reads.2 (by omega)
          injection e1 with e1
          subst e1
          exact hc j u hu
        subst hby
        have hge := grownCap_ge w (n + m) c e
        have hcm : grownCap w (n + m) c e ≤ maxLen := grownCap_le_maxLen w (n + m) c e h63
        have hsmall : n + m ≤ 9223372036854775807 := by simp only [maxLen] at h63; omega
        have hlen : (xs ++ news).length = n + m := by rw [List.length_append, hA.len, hr.1]
        have hrun := run_append_grow (P := P) w t ty e i z ht hi hz ⟨g, o, none⟩ n c xs (by rw [hA.len, hsize, Nat.mul_one]) holds ad m d news (by rw [hsize]; exact hnl) hcells (by omega) (by omega) (growslice_fits (by omega) hbytes)
        refine ⟨_, _, _, hrun, ⟨hlen, hge, hcm, (fun h => by cases h), fun ad' h' => ?_⟩, ⟨rfl, rfl, rfl, by simp, fun k hk _ => Below.heap_alloc w.drew _ k hk⟩, fun k hk => .inr (by simpa [rowT_some] using hk)⟩
        injection h' with h'
        subst h'
        refine ⟨w.heap.size, 0, xs ++ news ++ (Builtin.zeroCells z.cells (grownCap w (n + m) c e - (n + m))).toList, rfl, ?_, ?_, ?_⟩
        · have := heap_alloc_new w.drew (.cells (xs.toArray ++ news.toArray ++ Builtin.zeroCells z.cells (grownCap w (n + m) c e - (n + m))) e)
          unfold Blk
          refine this.trans ?_
          congr 2
          apply Array.ext'
          simp
        · have hzl : (Builtin.zeroCells z.cells (grownCap w (n + m) c e - (n + m))).toList.length = grownCap w (n + m) c e - (n + m) := by
            rw [Array.length_toList, size_zeroCells, hzs, Nat.mul_one]
          rw [List.length_append, hlen, hzl]
          omega
        · rw [List.drop_zero, ← hlen, List.take_left]

theorem row_append {t e : TypeId} (ty : TypeId) {i : TypeInfo} {z : Value} {bytes : Nat} (ht : P.underlying t = some (.slice e)) (hi : P.info? e = some i) (hz : i.zero = some z)
    (hsize : i.size = 1) (hby : i.bytes = bytes) (hzs : z.cells.size = 1) {A : Option Addr} {n c : Nat} {xs : List Value} (hA : RowAt w e A n c xs)
    {B : Nat} {X : Option Addr} {m : Nat} (d : Nat) {news : List Value} (hr : Reads w B X m news) (h1 : ∀ u ∈ news, u.oneCell' = true)
    (h63 : n + m ≤ maxLen) (hbytes : (n + m) * bytes ≤ 140737488355328) :
    ∃ A' c' w', (Builtin.append_ #[t, t] ty #[.slice A n c, .slice X m d]).run P w = .ok (.slice A' (n + m) c') w' ∧ RowAt w' e A' (n + m) c' (xs ++ news) ∧ Only (rowT A) w w' ∧
      ∀ k, k ∈ rowT A' → k ∈ rowT A ∨ w.heap.size ≤ k := by
  obtain ⟨A', c', w', h2, h3, h4, h5⟩ := row_append_at (P := P) ty ht hi hz hsize hby hzs hA d hr h1 h63 hbytes
  exact ⟨A', c', w', h2, h3, h4, fun k hk => (h5 k hk).imp id (fun h => by omega)⟩

variable {ops : Array Oper} {rest : List Oper} {o : Oper} {a : Act} {Q : Exit → Act → World → Prop}
/-- The same at the operation; N is the new length. -/
theorem wp_rowAppend (hgd : o.guard = none) (s x : Operand) (t : TypeId) (ho : o.op = .call { callee := .builtin .append, args := #[s, x], argTypes := #[t, t] })
    (e : TypeId) (i : TypeInfo) (z : Value) (bytes : Nat) (ht : P.underlying t = some (.slice e)) (hi : P.info? e = some i) (hz : i.zero = some z)
    (hsize : i.size = 1) (hby : i.bytes = bytes) (hzs : z.cells.size = 1) (A : Option Addr) (n c : Nat) (xs : List Value) (hs : a.eval s = .slice A n c) (hA : RowAt w e A n c xs)
    (B : Nat) (X : Option Addr) (m d : Nat) (news : List Value) (hx : a.eval x = .slice X m d) (hr : Reads w B X m news) (h1 : ∀ u ∈ news, u.oneCell' = true)
    (h63 : n + m ≤ maxLen) (hbytes : (n + m) * bytes ≤ 140737488355328) (N : Nat) (hN : N = n + m)
    (h : ∀ A' c' w', Hid (RowAt w' e A' N c' (xs ++ news)) → Only (rowT A) w w' → Hid (∀ k, k ∈ rowT A' → k ∈ rowT A ∨ w.heap.size ≤ k) → wpList P ops Q rest (a.put o.dst (.slice A' N c')) w') :
    wpList P ops Q (o :: rest) a w := by
  subst hN
  refine wpList_plain hgd fun K hK => ?_
  obtain ⟨A', c', w', hrun, h2, h3, h4⟩ := row_append (P := P) o.type ht hi hz hsize hby hzs hA d hr h1 h63 hbytes
  unfold Oper.wp execOp
  simp only [ho, resolve, invoke, builtin, Sem.run_bind, Sem.run_pure, Result.andThen_ok, List.map_toArray, List.map_cons, List.map_nil, hs, hx, hrun]
  exact hK _ _ (h A' c' w' h2 h3 h4)
end

/-- A list of ints as cells. -/
def vis (l : List Int) : List Value := l.map (Value.int .i64)
theorem vis_length (l : List Int) : (vis l).length = l.length := by simp [vis]
theorem vis_append (a b : List Int) : vis (a ++ b) = vis a ++ vis b := by simp [vis]
theorem vis_drop (a : List Int) (n : Nat) : vis (a.drop n) = (vis a).drop n := by simp [vis]
theorem vis_take (a : List Int) (n : Nat) : vis (a.take n) = (vis a).take n := by simp [vis]
theorem vis_getElem? (l : List Int) (i : Nat) : (vis l)[i]? = (l[i]?).map (Value.int .i64) := by simp [vis]
theorem vis_one (l : List Int) : ∀ v ∈ vis l, v.oneCell' = true := by
  intro v hv
  simp only [vis, List.mem_map] at hv
  obtain ⟨c, _, rfl⟩ := hv
  rfl

end Go.Proofs.Yteclclidibmajaa
