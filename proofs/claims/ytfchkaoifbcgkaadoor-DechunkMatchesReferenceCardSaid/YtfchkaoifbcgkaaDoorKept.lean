/-
  An append leaves the row that it is made onto as it reads. No program is imported here.
-/
import Derived.Test.YtfchkaoifbcgkaaDoorCuts
namespace Go.Proofs.YtfchkaoifbcgkaaDoor
open Go.RowKit

section
variable {P : Program} {w : World}
theorem row_append_kept {t e : TypeId} (ty : TypeId) {i : TypeInfo} {z : Value} {bytes : Nat} (ht : P.underlying t = some (.slice e)) (hi : P.info? e = some i) (hz : i.zero = some z)
    (hsize : i.size = 1) (hby : i.bytes = bytes) {A : Option Addr} {n c : Nat} {xs : List Value} (hA : RowAt w e A n c xs)
    {B : Nat} {X : Option Addr} {m : Nat} (d : Nat) {news : List Value} (hr : Reads w B X m news) (h1 : ∀ u ∈ news, u.oneCell' = true)
    (h63 : n + m ≤ maxLen) (hbytes : (n + m) * bytes ≤ 140737488355328) {v : Value} {w' : World}
    (hrun' : (Builtin.append_ #[t, t] ty #[.slice A n c, .slice X m d]).run P w = .ok v w') : RowAt w' e A n c xs := by
  cases A with
  | none =>
    have hc := hA.none_ rfl
    subst hc
    have hn : n = 0 := by have := hA.le; omega
    subst hn
    obtain rfl : xs = [] := List.eq_nil_of_length_eq_zero hA.len
    exact RowAt.nil _ _
  | some b =>
    rcases X with _ | ad
    · have hm : m = 0 := by
        rcases Nat.eq_zero_or_pos m with h0 | h0
        · exact h0
        · obtain ⟨_, e1, _⟩ := hr.2 h0
          cases e1
      subst hm
      have hle := hA.le
      have hrun : (Builtin.append_ #[t, t] ty #[.slice (some b) n c, .slice none 0 d]).run P w = .ok (.slice (some b) n c) w := by
        simp [Builtin.append_, run_underlying ht, sizeOf, typeInfo, hi, Builtin.lenOf, Builtin.firstCells, hle, storeCells]
      rw [hrun] at hrun'
      injection hrun' with _ e1
      subst e1
      exact hA
    · have hcells : ∀ j u, news[j]? = some u → w.cell? (ad.add j) = some u := by
        intro j u hu
        rcases Nat.eq_zero_or_pos m with h0 | h0
        · subst h0
          obtain rfl : news = [] := List.eq_nil_of_length_eq_zero hr.1
          simp at hu
        · obtain ⟨ad', e1, _, hc⟩ := hr.2 h0
          injection e1 with e1
          subst e1
          exact hc j u hu
      have hnl : news.length = m * 1 := by rw [hr.1, Nat.mul_one]
      obtain ⟨g, o, cur, rfl, hb, hfit, hxs⟩ := hA.some_ b rfl
      by_cases hroom : n + m ≤ c
      · have hc0 : ∀ j, j < news.length → (w.cell? ⟨g, o + n * i.size + j, none⟩).isSome = true := by
          intro j hj
          rw [hb.cell, hsize, Nat.mul_one, List.getElem?_eq_getElem (by rw [hr.1] at hj; omega)]
          rfl
        have hrun := run_append_room_cells (P := P) w t ty e i ht hi g o n c ad m d news (by rw [hsize]; exact hnl) hcells h1 hroom hc0 (fun j _ => hb.free _)
        rw [hsize, Nat.mul_one] at hrun
        rw [hrun] at hrun'
        injection hrun' with _ e1
        subst e1
        have hfit2 : o + n + news.length ≤ cur.length := by rw [hr.1]; omega
        have hb2 := cell_setCells_blk news cur (o + n) hb hfit2
        refine ⟨hA.len, hA.le, hA.max, (fun h => by cases h), fun ad' h' => ?_⟩
        injection h' with h'
        subst h'
        refine ⟨g, o, _, rfl, hb2, by rw [length_splice _ _ _ hfit2]; exact hfit, ?_⟩
        rw [← hxs]
        apply List.ext_getElem?
        intro j
        rw [List.getElem?_take, List.getElem?_drop, splice_getElem? _ _ _ hfit2, List.getElem?_take, List.getElem?_drop]
        by_cases h2 : j < n
        · rw [if_pos h2, if_pos h2, if_neg (by omega)]
        · rw [if_neg h2, if_neg h2]
      · have holds : ∀ j u, xs[j]? = some u → w.cell? ((⟨g, o, none⟩ : Addr).add j) = some u := by
          intro j u hu
          have hj : j < n := by have := (List.getElem?_eq_some_iff.1 hu).1; have := hA.len; omega
          obtain ⟨ad', e1, _, hc⟩ := hA.reads.2 (by omega)
          injection e1 with e1
          subst e1
          exact hc j u hu
        subst hby
        have hsmall : n + m ≤ 9223372036854775807 := by simp only [maxLen] at h63; omega
        have hrun := run_append_grow (P := P) w t ty e i z ht hi hz ⟨g, o, none⟩ n c xs (by rw [hA.len, hsize, Nat.mul_one]) holds ad m d news (by rw [hsize]; exact hnl) hcells (by omega) (by omega) (growslice_fits (by omega) hbytes)
        rw [hrun] at hrun'
        injection hrun' with _ e1
        subst e1
        exact (hA.drewN 1).alloc _
variable {ops : Array Oper} {rest : List Oper} {o : Oper} {a : Act} {Q : Exit → Act → World → Prop}
/-- 'wp_rowAppend', the old row kept. -/
theorem wp_rowAppend_kept (hgd : o.guard = none) (s x : Operand) (t : TypeId) (ho : o.op = .call { callee := .builtin .append, args := #[s, x], argTypes := #[t, t] })
    (e : TypeId) (i : TypeInfo) (z : Value) (bytes : Nat) (ht : P.underlying t = some (.slice e)) (hi : P.info? e = some i) (hz : i.zero = some z)
    (hsize : i.size = 1) (hby : i.bytes = bytes) (hzs : z.cells.size = 1) (A : Option Addr) (n c : Nat) (xs : List Value) (hs : a.eval s = .slice A n c) (hA : RowAt w e A n c xs)
    (B : Nat) (X : Option Addr) (m d : Nat) (news : List Value) (hx : a.eval x = .slice X m d) (hr : Reads w B X m news) (h1 : ∀ u ∈ news, u.oneCell' = true)
    (h63 : n + m ≤ maxLen) (hbytes : (n + m) * bytes ≤ 140737488355328) (N : Nat) (hN : N = n + m)
    (h : ∀ A' c' w', Hid (RowAt w' e A' N c' (xs ++ news)) → Only (rowT A) w w' → Hid (∀ k, k ∈ rowT A' → k ∈ rowT A ∨ w.heap.size ≤ k) → Hid (RowAt w' e A n c xs) → wpList P ops Q rest (a.put o.dst (.slice A' N c')) w') :
    wpList P ops Q (o :: rest) a w := by
  subst hN
  refine wpList_plain hgd fun K hK => ?_
  obtain ⟨A', c', w', hrun, h2, h3, h4⟩ := row_append (P := P) o.type ht hi hz hsize hby hzs hA d hr h1 h63 hbytes
  have hkept := row_append_kept o.type ht hi hz hsize hby hA d hr h1 h63 hbytes hrun
  unfold Oper.wp execOp
  simp only [ho, resolve, invoke, builtin, Sem.run_bind, Sem.run_pure, Result.andThen_ok, List.map_toArray, List.map_cons, List.map_nil, hs, hx, hrun]
  exact hK _ _ (h A' c' w' h2 h3 h4 hkept)
end
end Go.Proofs.YtfchkaoifbcgkaaDoor
