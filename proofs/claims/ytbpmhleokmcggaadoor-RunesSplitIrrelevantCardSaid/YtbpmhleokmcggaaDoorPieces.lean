/-
  A slice of slices of bytes that came in, opened to its cells.
-/
import Derived.Test.YtbpmhleokmcggaaDoorOpen
import Derived.SizedLaws
namespace Go.Proofs.YtbpmhleokmcggaaDoor
open Go.ChangeShapes Go.WideShapes Go.Deep Go.RowKit

/-- One piece: '.slice A m c', with the bytes b. -/
structure PieceV where
  A : Option Addr
  m : Nat
  c : Nat
  b : List UInt8

/-- What is said of one piece. -/
def PieceV.at (w : World) (B : Nat) (p : PieceV) : Prop := p.b.length = p.m ∧ p.m ≤ p.c ∧ p.c ≤ maxLen ∧ Reads w B p.A p.m (vbs p.b)
/-- '.slice X len _' leads to the pieces ps. -/
def PiecesAt (w : World) (B : Nat) (X : Option Addr) (len : Nat) (ps : List PieceV) : Prop :=
  ps.length = len ∧
  (0 < len → ∃ g o, X = some ⟨g, o, none⟩ ∧ g < B ∧ ∀ i p, ps[i]? = some p → w.cell? ⟨g, o + i, none⟩ = some (.slice p.A p.m p.c)) ∧
  ∀ p, p ∈ ps → p.at w B

theorem PiecesAt.below {w w' : World} {B : Nat} {X : Option Addr} {len : Nat} {ps : List PieceV} (h : PiecesAt w B X len ps) (hb : Below B w w') : PiecesAt w' B X len ps := by
  obtain ⟨h1, h2, h3⟩ := h
  refine ⟨h1, fun hl => ?_, fun p hp => ?_⟩
  · obtain ⟨g, o, e, hg, hc⟩ := h2 hl
    exact ⟨g, o, e, hg, fun i p hi => (hb.cell (p := ⟨g, _, none⟩) hg).trans (hc i p hi)⟩
  · obtain ⟨a1, a2, a3, a4⟩ := h3 p hp
    exact ⟨a1, a2, a3, a4.below hb⟩
/-- The piece at place i. -/
theorem PiecesAt.piece {w : World} {B : Nat} {X : Option Addr} {len : Nat} {ps : List PieceV} (h : PiecesAt w B X len ps) {i : Nat} (hi : i < len) :
    ∃ p g o, ps[i]? = some p ∧ X = some ⟨g, o, none⟩ ∧ g < B ∧ w.cell? ⟨g, o + i, none⟩ = some (.slice p.A p.m p.c) ∧ p.at w B := by
  have hl : i < ps.length := by rw [h.1]; exact hi
  obtain ⟨g, o, e, hg, hc⟩ := h.2.1 (by omega)
  exact ⟨ps[i], g, o, List.getElem?_eq_getElem hl, e, hg, hc i _ (List.getElem?_eq_getElem hl), h.2.2 _ (List.getElem_mem hl)⟩

/-- A reading of a piece: how many bytes it tells. -/
def PieceV.told {H : Type} (p : PieceV) (d : DataW H) : Prop := (d = .nil ∧ p.m = 0) ∨ ∃ es sp, d = .slice es sp ∧ es.length = p.m
/-- The reading of all the pieces. -/
def PiecesTold {H : Type} (ps : List PieceV) (d : DataW H) : Prop :=
  (d = .nil ∧ ps = []) ∨ ∃ D sp, d = .slice D sp ∧ D.length = ps.length ∧ ∀ (i : Nat) (p : PieceV), ps[i]? = some p → ∃ di, D[i]? = some di ∧ p.told di

theorem pieces_of_trod {H : Type} {enc : TypeId × Value → H} {P : Program} {w : World} {t e s : TypeId} (ht : P.underlying t = some (.slice e)) (he : P.underlying e = some (.slice s)) (hC : P.cellsOf e = 1) (hs : P.underlying s = some (.int .u8)) (hsc : P.cellsOf s = 1)
    {a : Option Addr} {len cap : Nat} {d : DataW H} {p : List MemPlace} (h : DataW.Trod enc P w 0 (fun _ => true) true t (.slice a len cap) d p) :
    len ≤ cap ∧ cap ≤ maxLen ∧ ∃ ps, PiecesAt w w.heap.size a len ps ∧ PiecesTold ps d := by
  obtain ⟨fuel, hf⟩ := h
  rcases open_slice ht hf with ⟨hcs, hx⟩ | ⟨x, l, c, m, n, D, Pl, hcs, _, hl, hm, hmm, hx, hi⟩
  · simp [Value.cells] at hcs
    obtain ⟨rfl, rfl, rfl⟩ := hcs
    injection hx with hx _
    exact ⟨Nat.le_refl _, Nat.zero_le _, [], ⟨rfl, fun h => absurd h (by omega), fun p hp => by cases hp⟩, .inl ⟨hx, rfl⟩⟩
  · simp [Value.cells] at hcs
    obtain ⟨rfl, rfl, rfl⟩ := hcs
    refine ⟨hl, hm, ?_⟩
    simp only [if_true] at hmm
    injection hx with hx _
    have one : ∀ i, i < len → ∃ p : PieceV, w.cell? (x.add i) = some (.slice p.A p.m p.c) ∧ p.at w w.heap.size ∧ p.told (D i) := by
      intro i hil
      obtain ⟨cs', hc, ht'⟩ := hi i (by omega)
      rw [hC, Nat.mul_one] at hc
      rcases open_ints he hs hsc ht' with ⟨hcs, hD⟩ | ⟨y, l', c', zs, hcs, _, hl', hm', hz, hD, hcell, hwz⟩
      · subst hcs
        injection hD with hD _
        exact ⟨⟨none, 0, 0, []⟩, cell_of_cells?_one hc, ⟨rfl, Nat.le_refl _, Nat.zero_le _, Reads.none_⟩, .inl ⟨hD, rfl⟩⟩
      · subst hcs
        injection hD with hD _
        simp only [if_true] at hz
        obtain ⟨b, h1, h2, h3, h4⟩ := reads_of_row (w := w) (a := some y) (len := l') (cap := c') (zs := zs) (.inr ⟨_, rfl, hl', hm', hz, hcell, hwz⟩)
        exact ⟨⟨some y, l', c', b⟩, cell_of_cells?_one hc, ⟨h1, h2, h3, h4⟩, .inr ⟨_, _, hD, by simp [lits]; omega⟩⟩
    have hinh : Inhabited PieceV := ⟨⟨none, 0, 0, []⟩⟩
    obtain ⟨f, hfn⟩ := choose_lt one
    refine ⟨(List.range len).map f, ⟨by simp, fun hl0 => ?_, fun p hp => ?_⟩, .inr ⟨_, _, hx, by simp, fun i p hip => ?_⟩⟩
    · have hp := plain_of_cell (w := w) (a := x) (by simpa using (hfn 0 hl0).1)
      refine ⟨x.block, x.off, by rw [← hp.1], hp.2, fun i p hip => ?_⟩
      simp only [List.getElem?_map, Option.map_eq_some_iff] at hip
      obtain ⟨j, hj, rfl⟩ := hip
      have hjl : i < len ∧ j = i := by
        obtain ⟨h1, h2⟩ := List.getElem?_eq_some_iff.1 hj
        simp at h1 h2
        exact ⟨h1, h2.symm⟩
      obtain ⟨hil, rfl⟩ := hjl
      have h3 := (hfn j hil).1
      rw [hp.1] at h3
      simpa only [add_at] using h3
    · simp only [List.mem_map, List.mem_range] at hp
      obtain ⟨i, hil, rfl⟩ := hp
      exact (hfn i hil).2.1
    · simp only [List.getElem?_map, Option.map_eq_some_iff] at hip
      obtain ⟨j, hj, rfl⟩ := hip
      have hjl : i < len ∧ j = i := by
        obtain ⟨h1, h2⟩ := List.getElem?_eq_some_iff.1 hj
        simp at h1 h2
        exact ⟨h1, h2.symm⟩
      obtain ⟨hil, rfl⟩ := hjl
      exact ⟨D j, by simp [hil], (hfn j hil).2.2⟩

theorem weightsAll_mem {H : Type} {P : Program} {e : TypeId} : ∀ {ds : List (DataW H)} {d : DataW H} {n : Nat}, d ∈ ds → n ∈ d.weights P e → n ∈ DataW.weightsAll P e ds
  | d0 :: ds, d, n, hd, hn => by
    simp only [DataW.weightsAll, List.mem_append]
    rcases List.mem_cons.1 hd with rfl | h
    · exact .inl hn
    · exact .inr (weightsAll_mem h hn)
/-- The form's own reach, at the pieces. -/
theorem PiecesTold.reach {H : Type} {P : Program} {t e s : TypeId} (ht : P.underlying t = some (.slice e)) (he : P.underlying e = some (.slice s)) (hb : P.bytesOf s = 1) {ps : List PieceV} {d : DataW H} (h : PiecesTold ps d)
    (hw : ∀ n, n ∈ d.weights P t → n ≤ reachBytes) : ∀ p, p ∈ ps → p.m ≤ reachBytes := by
  intro p hp
  rcases h with ⟨_, rfl⟩ | ⟨D, sp, rfl, hl, hD⟩
  · cases hp
  · obtain ⟨i, hi, rfl⟩ := List.getElem_of_mem hp
    obtain ⟨di, hdi, hd⟩ := hD i _ (List.getElem?_eq_getElem hi)
    rcases hd with ⟨_, h0⟩ | ⟨es, sp', rfl, h1⟩
    · omega
    · have h2 := hw ((es.length + sp'.length) * P.bytesOf s) (by
        unfold DataW.weights
        rw [ht]
        simp only [List.mem_cons, List.mem_append]
        exact .inr (.inl (weightsAll_mem (List.mem_of_getElem? hdi) (by unfold DataW.weights; rw [he]; simp))))
      rw [hb] at h2
      omega

end Go.Proofs.YtbpmhleokmcggaaDoor
