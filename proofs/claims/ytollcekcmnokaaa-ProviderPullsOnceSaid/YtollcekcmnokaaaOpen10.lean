/-
  The frame's needs of this stage: fields and strings that came in.
-/
import Derived.Test.YtollcekcmnokaaaAlive10B
import Derived.HandedShaped
namespace Go.Proofs.Ytollcekcmnokaaa
open Go.Joins Go.ChangeShapes Go.WideShapes Go.Deep Go.RowKit

/-- Strings that came in. -/
def Came (w : World) (A : Option Addr) (n : Nat) (l : List ByteArray) : Prop := l.length = n ∧ Strs w A l ∧ n * 16 ≤ 140737488351232 ∧ ∀ s, s ∈ l → s.size ≤ maxLen
/-- Fields that came in. -/
def CameF (w : World) (F : Option Addr) (m d : Nat) (x : List ByteArray × List VT) : Prop := x.2.length = m ∧ (mapT F d x.1 x.2).In w (· < w.heap.size)
theorem strs_of {H : Type} {enc : TypeId × Value → H} {P : Program} {w : World} {ST LS : TypeId} (hS : P.underlying ST = some .string) (hc : P.cellsOf ST = 1) (hb : 16 ≤ P.bytesOf ST) (ht : P.underlying LS = some (.slice ST)) {fuel : Nat} {v : Value} {y : DataW H × List MemPlace}
    (h : DataW.trod enc P w 0 (fun _ => true) true fuel LS [v] = some y) (hw : ∀ n, n ∈ y.1.weights P LS → n ≤ reachBytes) :
    ∃ (A : Option Addr) (c : Nat) (l : List ByteArray), [v] = [.slice A l.length c] ∧ l.length * 16 ≤ reachBytes ∧ Strs w A l ∧ ∀ s, s ∈ l → s.size ≤ reachBytes := by
  rcases DataW.trod_slice ht h with ⟨hcs, _⟩ | ⟨a, len, cap, elems, rest, n, hfu, hcs, hye, _, hl, hm, hlen, hel, _, _⟩
  · exact ⟨none, 0, [], hcs, Nat.zero_le _, .inl rfl, fun s hs => by cases hs⟩
  · rw [hc] at hel
    have hw2 : ∀ n, n ∈ (elems.length + rest.length) * P.bytesOf ST :: (DataW.weightsAll P ST (elems.map (·.1)) ++ DataW.weightsAll P ST (rest.map (·.1))) → n ≤ reachBytes := by
      intro n hn
      refine hw n ?_
      rw [hye]
      unfold DataW.weights
      rw [ht]
      simpa using hn
    have hlr : len * 16 ≤ reachBytes := by
      have h1 := hw2 _ (List.mem_cons_self ..)
      have h2 : (elems.length + rest.length) * 16 ≤ (elems.length + rest.length) * P.bytesOf ST := Nat.mul_le_mul_left _ hb
      omega
    have one : ∀ i, i < len → ∃ s : ByteArray, w.cell? (a.add i) = some (.string s) ∧ s.size ≤ reachBytes := by
      intro i hi
      have h1 := hel i hi
      rw [List.getElem?_eq_getElem (by omega)] at h1
      obtain ⟨cs', c1, c2⟩ := Option.bind_eq_some_iff.1 h1
      obtain ⟨_, hcl, hat⟩ := World.cells?_some c1
      match cs', hcl with
      | [v0], _ =>
        have c2' : DataW.trod enc P w 0 (fun _ => true) true n ST [v0] = some elems[i] := c2
        obtain ⟨s, e0, ey0, w0⟩ := DataW.trod_string hS c2'
        have w0 : s.size ≤ reachBytes := hw2 _ (List.mem_cons_of_mem _ (List.mem_append_left _ (VT.weightsAll_in (List.mem_map_of_mem (List.getElem_mem _)) (by rw [ey0]; simp [DataW.weights]))))
        simp only [List.cons.injEq, and_true] at e0
        subst e0
        refine ⟨s, ?_, w0⟩
        have := hat 0 (by omega)
        rw [Nat.mul_one, Go.Deep.add_add, Nat.add_zero] at this
        exact this
    have hinh : Inhabited ByteArray := ⟨ByteArray.empty⟩
    obtain ⟨f, hfn⟩ := choose_lt one
    refine ⟨some a, cap, (List.range len).map f, by simpa using hcs, by simpa using hlr, ?_, fun s hs => ?_⟩
    · by_cases h0 : len = 0
      · left; subst h0; rfl
      · right
        have hp := plain_of_cell (w := w) (a := a) (v := .string (f 0)) (hfn 0 (by omega)).1
        refine ⟨a.block, a.off, by rw [← hp.1], hp.2, fun i hi => ?_⟩
        simp only [List.length_map, List.length_range] at hi
        have h1 := (hfn i hi).1
        rw [hp.1, add_at] at h1
        rw [List.getD_eq_getElem?_getD, List.getElem?_map, List.getElem?_range hi]
        exact h1
    · simp only [List.mem_map, List.mem_range] at hs
      obtain ⟨i, hi, rfl⟩ := hs
      exact (hfn i hi).2
set_option maxRecDepth 100000 in
theorem open_T23 {H : Type} {enc : TypeId × Value → H} {w : World} {a : Option Addr} {len cap : Nat} {d : DataW H} {p : List MemPlace}
    (h : DataW.Trod enc Try.prog w 0 (fun _ => true) true 23 (.slice a len cap) d p) (hz : ∀ n, n ∈ d.weights Try.prog 23 → n ≤ reachBytes) : ∃ l : List ByteArray, Came w a len l := by
  obtain ⟨fuel, hf⟩ := h
  have hf' : DataW.trod enc Try.prog w 0 (fun _ => true) true fuel 23 [.slice a len cap] = some (d, p) := hf
  obtain ⟨A, c, l, e, h1, h2, h3⟩ := strs_of (ST := 9) Try.underlying9 (by kernel_rfl) (of_decide_eq_true (by kernel_rfl)) Try.underlying23 hf' hz
  simp only [List.cons.injEq, Value.slice.injEq, and_true] at e
  obtain ⟨rfl, rfl, rfl⟩ := e
  unfold reachBytes at h1
  exact ⟨l, rfl, h2, h1, fun s hs => by have := h3 s hs; unfold reachBytes at this; unfold maxLen; omega⟩
set_option maxRecDepth 100000 in
theorem open_T22 {H : Type} {enc : TypeId × Value → H} {w : World} {a : Option Addr} {len cap : Nat} {d : DataW H} {p : List MemPlace}
    (h : DataW.Trod enc Try.prog w 0 (fun _ => true) true 22 (.slice a len cap) d p) (hz : ∀ n, n ∈ d.weights Try.prog 22 → n ≤ reachBytes) : ∃ x : List ByteArray × List VT, CameF w a len cap x := by
  obtain ⟨fuel, hf⟩ := h
  have hf' : DataW.trod enc Try.prog w 0 (fun _ => true) true fuel 22 [.slice a len cap] = some (d, p) := hf
  obtain ⟨F, c, ks, vs, e, h1, h2, h3, h4, h5⟩ := VT.fields_of (V := 27) (Fd := 49) (N := fuel + 1) (by kernel_rfl) (of_decide_eq_true (by kernel_rfl)) Try.underlying49 (by kernel_rfl) Try.underlying9 rfl rfl rfl (by kernel_rfl)
    (fun m _ cs x hx hwx => VT.of_trod (V := 27) (Fd := 49) Try.underlying27 (by kernel_rfl) (by kernel_rfl) (of_decide_eq_true (by kernel_rfl)) Try.underlying49 (by kernel_rfl) (of_decide_eq_true (by kernel_rfl)) Try.underlying3 Try.underlying9 Try.underlying2 Try.underlying4 Try.underlying25 Try.underlying22 Try.underlying9 rfl rfl rfl (by kernel_rfl) m cs x hx hwx)
    Try.underlying22 hf' (Nat.lt_succ_self _) hz
  simp only [List.cons.injEq, Value.slice.injEq, and_true] at e
  obtain ⟨rfl, rfl, rfl⟩ := e
  exact ⟨(ks, vs), rfl, .mk _ (of_decide_eq_true rfl) (of_decide_eq_true rfl) (of_decide_eq_true rfl) (of_decide_eq_true rfl) h2 h1 (fun h => absurd h (Nat.lt_irrefl 0)) h3 (by intro x hx; cases hx) h4 h5⟩
end Go.Proofs.Ytollcekcmnokaaa
