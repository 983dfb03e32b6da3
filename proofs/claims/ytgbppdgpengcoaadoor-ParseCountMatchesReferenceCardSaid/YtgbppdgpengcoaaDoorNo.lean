/-
  What a reading of an argument gives where it is a slice of nodes of templates. No program is imported here.
-/
import Derived.Test.YtgbppdgpengcoaaDoorNt
namespace Go.Proofs.YtgbppdgpengcoaaDoor
open Go.Joins Go.ChangeShapes Go.WideShapes Go.Deep Go.RowKit
set_option linter.unusedVariables false
namespace NT
variable {H : Type} {enc : TypeId × Value → H} {P : Program} {w : World}
theorem cells_of_agg {w : World} {g o : Nat} {cs : List Value} {t : NT} (h : Value.agg cs.toArray = t.val) (hat : ∀ i, i < 8 → w.cell? ⟨g, o + i, none⟩ = cs[i]?) : t.Cells w g o := by
  have e : cs = t.cs := by
    have := congrArg (fun v => match v with | Value.agg a => a.toList | _ => []) h
    simpa [val] using this
  subst e
  intro j u hu
  rw [hat j (by have := (List.getElem?_eq_some_iff.1 hu).1; rw [cs_len] at this; exact this)]
  exact hu
theorem weightsAll_in {e : TypeId} : ∀ {ds : List (DataW H)} {d : DataW H} {n : Nat}, d ∈ ds → n ∈ d.weights P e → n ∈ DataW.weightsAll P e ds
  | d0 :: ds, d, n, hd, hn => by
    simp only [DataW.weightsAll, List.mem_append]
    rcases List.mem_cons.1 hd with rfl | h
    · exact .inl hn
    · exact .inr (weightsAll_in h hn)
/-- A reading of a slice of nodes, from one of nodes. -/
theorem items_of {V LV : TypeId} {N : Nat} (hVc : P.cellsOf V = 8) (hVb : 104 ≤ P.bytesOf V)
    (ih : ∀ m, m < N → ∀ (cs : List Value) (x : DataW H × List MemPlace), DataW.trod enc P w 0 (fun _ => true) true m V cs = some x → (∀ n, n ∈ x.1.weights P V → n ≤ reachBytes) → ∃ t : NT, Value.agg cs.toArray = t.val ∧ t.In w (· < w.heap.size))
    (ht : P.underlying LV = some (.slice V)) {fuel : Nat} {v : Value} {y : DataW H × List MemPlace} (h : DataW.trod enc P w 0 (fun _ => true) true fuel LV [v] = some y) (hN : fuel < N) (hw : ∀ n, n ∈ y.1.weights P LV → n ≤ reachBytes) :
    ∃ (A : Option Addr) (c : Nat) (xs : List NT), [v] = [.slice A xs.length c] ∧ Row w (· < w.heap.size) A c xs := by
  rcases DataW.trod_slice ht h with ⟨hcs, _⟩ | ⟨a, len, cap, elems, rest, n, hfu, hcs, hye, _, hl, hm, hlen, hel, _, _⟩
  · exact ⟨none, 0, [], hcs, Row.nil _ _⟩
  · rw [hVc] at hel
    have hw2 : ∀ n, n ∈ (elems.length + rest.length) * P.bytesOf V :: (DataW.weightsAll P V (elems.map (·.1)) ++ DataW.weightsAll P V (rest.map (·.1))) → n ≤ reachBytes := by
      intro n hn
      refine hw n ?_
      rw [hye]
      unfold DataW.weights
      rw [ht]
      simpa using hn
    have hlr : len * 104 ≤ reachBytes := by
      have h1 := hw2 _ (List.mem_cons_self ..)
      have h2 : (elems.length + rest.length) * 104 ≤ (elems.length + rest.length) * P.bytesOf V := Nat.mul_le_mul_left _ hVb
      omega
    have one : ∀ i, i < len → ∃ t : NT, (∃ cs, w.cells? 0 (a.add (i * 8)) 8 = some cs ∧ Value.agg cs.toArray = t.val) ∧ t.In w (· < w.heap.size) := by
      intro i hi
      have h1 := hel i hi
      rw [List.getElem?_eq_getElem (by omega)] at h1
      obtain ⟨cs', c1, c2⟩ := Option.bind_eq_some_iff.1 h1
      obtain ⟨t, t1, t2⟩ := ih n (by omega) cs' _ c2 (fun m hm => hw2 m (List.mem_cons_of_mem _ (List.mem_append_left _ (weightsAll_in (List.mem_map_of_mem (List.getElem_mem _)) hm))))
      exact ⟨t, ⟨cs', c1, t1⟩, t2⟩
    have hinh : Inhabited NT := ⟨.mk 0 0 ByteArray.empty ByteArray.empty false false none 0 [] none 0 []⟩
    obtain ⟨f, hfn⟩ := choose_lt one
    refine ⟨some a, cap, (List.range len).map f, by simpa using hcs, ⟨by simpa using ⟨hl, hm, hlr⟩, fun hl0 => ?_⟩, fun x hx => ?_⟩
    · simp only [List.length_map, List.length_range] at hl0
      obtain ⟨cs0, c0, e0⟩ := (hfn 0 hl0).1
      obtain ⟨_, _, hat⟩ := World.cells?_some c0
      have hp := plain_of_cell (w := w) (a := a) (v := cs0[0]'(by obtain ⟨_, hcl, _⟩ := World.cells?_some c0; omega)) (by
        have := hat 0 (by omega)
        simp only [Nat.zero_mul] at this
        rw [Go.Deep.add_add] at this
        rw [this]
        exact List.getElem?_eq_getElem _)
      refine ⟨a.block, a.off, by rw [← hp.1], hp.2, fun i x hix => ?_⟩
      simp only [List.getElem?_map, Option.map_eq_some_iff] at hix
      obtain ⟨j, hj, rfl⟩ := hix
      have hjl : i < len ∧ j = i := by
        obtain ⟨h1, h2⟩ := List.getElem?_eq_some_iff.1 hj
        simp at h1 h2
        exact ⟨h1, h2.symm⟩
      obtain ⟨hil, rfl⟩ := hjl
      obtain ⟨cs1, c1, e1⟩ := (hfn j hil).1
      rw [hp.1, add_at] at c1
      obtain ⟨_, _, hat1⟩ := World.cells?_some c1
      exact cells_of_agg e1 fun i hi => by have := hat1 i hi; rwa [add_at] at this
    · simp only [List.mem_map, List.mem_range] at hx
      obtain ⟨i, hil, rfl⟩ := hx
      exact (hfn i hil).2
/-- A reading of a node's eight cells. -/
theorem of_trod {V : TypeId} {f0 f1 f2 f3 f4 f5 f6 f7 : Field} (hV : P.underlying V = some (.struct #[f0, f1, f2, f3, f4, f5, f6, f7])) (hone : oneCellFields P #[f0, f1, f2, f3, f4, f5, f6, f7] = true)
    (hVc : P.cellsOf V = 8) (hVb : 104 ≤ P.bytesOf V) (t0 : P.underlying f0.type = some (.int .i64)) (t1 : P.underlying f1.type = some (.int .i64)) (t2 : P.underlying f2.type = some .string) (t3 : P.underlying f3.type = some .string)
    (t4 : P.underlying f4.type = some .bool) (t5 : P.underlying f5.type = some .bool) (t6 : P.underlying f6.type = some (.slice V)) (t7 : P.underlying f7.type = some (.slice V)) :
    ∀ (fuel : Nat) (cs : List Value) (x : DataW H × List MemPlace), DataW.trod enc P w 0 (fun _ => true) true fuel V cs = some x → (∀ n, n ∈ x.1.weights P V → n ≤ reachBytes) → ∃ t : NT, Value.agg cs.toArray = t.val ∧ t.In w (· < w.heap.size) := by
  intro fuel
  induction fuel using Nat.strongRecOn with
  | _ fuel ih =>
    intro cs x h hw
    obtain ⟨ys, n, rfl, hyy, hlen, hyl, hf⟩ := DataW.trod_struct hV h
    rw [hyy] at hw
    rw [hVc] at hlen
    simp only [List.size_toArray, List.length_cons, List.length_nil] at hyl
    match cs, hlen with
    | [v0, v1, v2, v3, v4, v5, v6, v7], _ =>
      have at0 := hf 0 f0 rfl
      have at1 := hf 1 f1 rfl
      have at2 := hf 2 f2 rfl
      have at3 := hf 3 f3 rfl
      have at4 := hf 4 f4 rfl
      have at5 := hf 5 f5 rfl
      have at6 := hf 6 f6 rfl
      have at7 := hf 7 f7 rfl
      obtain ⟨a0, b0⟩ := hone_of hone 0 f0 rfl
      obtain ⟨a1, b1⟩ := hone_of hone 1 f1 rfl
      obtain ⟨a2, b2⟩ := hone_of hone 2 f2 rfl
      obtain ⟨a3, b3⟩ := hone_of hone 3 f3 rfl
      obtain ⟨a4, b4⟩ := hone_of hone 4 f4 rfl
      obtain ⟨a5, b5⟩ := hone_of hone 5 f5 rfl
      obtain ⟨a6, b6⟩ := hone_of hone 6 f6 rfl
      obtain ⟨a7, b7⟩ := hone_of hone 7 f7 rfl
      rw [a0, b0] at at0; rw [a1, b1] at at1; rw [a2, b2] at at2; rw [a3, b3] at at3; rw [a4, b4] at at4; rw [a5, b5] at at5; rw [a6, b6] at at6; rw [a7, b7] at at7
      simp only [List.drop_zero, List.drop_succ_cons, List.take_succ_cons, List.take_zero] at at0 at1 at2 at3 at4 at5 at6 at7
      match ys, hyl with
      | [y0, y1, y2, y3, y4, y5, y6, y7], _ =>
      have hw4 : ∀ n, n ∈ y0.1.weights P f0.type ++ (y1.1.weights P f1.type ++ (y2.1.weights P f2.type ++ (y3.1.weights P f3.type ++ (y4.1.weights P f4.type ++ (y5.1.weights P f5.type ++ (y6.1.weights P f6.type ++ (y7.1.weights P f7.type ++ []))))))) → n ≤ reachBytes := by
        intro m hm
        refine hw m ?_
        unfold DataW.weights
        rw [hV]
        simp only [List.map_cons, List.map_nil, DataW.weightsEach]
        exact hm
      simp only [List.getElem?_cons_zero, List.getElem?_cons_succ] at at0 at1 at2 at3 at4 at5 at6 at7
      obtain ⟨k, e0, _, w0⟩ := DataW.trod_int t0 at0
      obtain ⟨a, e1, _, w1⟩ := DataW.trod_int t1 at1
      obtain ⟨s, e2, ey2, _⟩ := DataW.trod_string t2 at2
      have w2 : s.size ≤ reachBytes := hw4 _ (by simp only [List.mem_append]; exact .inr (.inr (.inl (by rw [ey2]; simp [DataW.weights]))))
      obtain ⟨p, e3, ey3, _⟩ := DataW.trod_string t3 at3
      have w3 : p.size ≤ reachBytes := hw4 _ (by simp only [List.mem_append]; exact .inr (.inr (.inr (.inl (by rw [ey3]; simp [DataW.weights])))))
      obtain ⟨h', e4, _⟩ := DataW.trod_bool t4 at4
      obtain ⟨e', e5, _⟩ := DataW.trod_bool t5 at5
      simp only [List.cons.injEq, and_true] at e0 e1 e2 e3 e4 e5
      subst e0 e1 e2 e3 e4 e5
      obtain ⟨A, c, xs, e6, hA⟩ := items_of hVc hVb ih t6 at6 (Nat.lt_succ_self n) (fun m hm => hw4 m (by simp only [List.mem_append]; exact .inr (.inr (.inr (.inr (.inr (.inr (.inl hm))))))))
      obtain ⟨B, d, vs, e7, hB⟩ := items_of hVc hVb ih t7 at7 (Nat.lt_succ_self n) (fun m hm => hw4 m (by simp only [List.mem_append]; exact .inr (.inr (.inr (.inr (.inr (.inr (.inr (.inl hm)))))))))
      simp only [List.cons.injEq, and_true] at e6 e7
      subst e6 e7
      exact ⟨.mk k a s p h' e' A c xs B d vs, rfl, .mk _ (wf_i64 w0) (wf_i64 w1) w2 w3 hA.1 hB.1 hA.2 hB.2⟩
/-- A reading of a slice of nodes. -/
theorem row_of_trod {V LV : TypeId} {f0 f1 f2 f3 f4 f5 f6 f7 : Field} (hV : P.underlying V = some (.struct #[f0, f1, f2, f3, f4, f5, f6, f7])) (hone : oneCellFields P #[f0, f1, f2, f3, f4, f5, f6, f7] = true)
    (hVc : P.cellsOf V = 8) (hVb : 104 ≤ P.bytesOf V) (t0 : P.underlying f0.type = some (.int .i64)) (t1 : P.underlying f1.type = some (.int .i64)) (t2 : P.underlying f2.type = some .string) (t3 : P.underlying f3.type = some .string)
    (t4 : P.underlying f4.type = some .bool) (t5 : P.underlying f5.type = some .bool) (t6 : P.underlying f6.type = some (.slice V)) (t7 : P.underlying f7.type = some (.slice V)) (ht : P.underlying LV = some (.slice V))
    {fuel : Nat} {v : Value} {y : DataW H × List MemPlace} (h : DataW.trod enc P w 0 (fun _ => true) true fuel LV [v] = some y) (hw : ∀ n, n ∈ y.1.weights P LV → n ≤ reachBytes) :
    ∃ (A : Option Addr) (c : Nat) (xs : List NT), v = .slice A xs.length c ∧ Row w (· < w.heap.size) A c xs := by
  obtain ⟨A, c, xs, e, hr⟩ := items_of (N := fuel + 1) hVc hVb (fun m _ cs x h hw => of_trod hV hone hVc hVb t0 t1 t2 t3 t4 t5 t6 t7 m cs x h hw) ht h (Nat.lt_succ_self _) hw
  simp only [List.cons.injEq, and_true] at e
  exact ⟨A, c, xs, e, hr⟩
end NT
end Go.Proofs.YtgbppdgpengcoaaDoor
