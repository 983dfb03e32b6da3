/-
  Slices of structs that came in, opened to their cells.
-/
import Derived.Test.YteclclidibmajaaFrame
import Derived.Deep.Slices
import Derived.Deep.Fields
import Derived.ChangeSame
namespace Go.Proofs.Yteclclidibmajaa
open Go.ChangeShapes Go.WideShapes Go.Deep Go.RowKit

section
variable {H : Type} {enc : TypeId × Value → H} {P : Program} {w : World} {base : Nat} {spare : Nat → Bool} {held : Bool}
theorem open_slice_fields {t e : TypeId} {fs : Array Field} {fuel : Nat} {cs : List Value} {x : DataW H × List MemPlace} (ht : P.underlying t = some (.slice e)) (he : P.underlying e = some (.struct fs))
    (hone : oneCellFields P fs = true) (hC : P.cellsOf e = fs.size) (h : DataW.trod enc P w base spare held fuel t cs = some x) :
    (cs = [.slice none 0 0] ∧ x = (.nil, [])) ∨
    ∃ (a : Addr) (len cap m : Nat), cs = [.slice (some a) len cap] ∧ len ≤ cap ∧ cap ≤ maxLen ∧ m = (if spare a.block then cap else len) ∧
      ∀ i, i < m → ∃ (n : Nat), ∀ (j : Nat) (f : Field), fs[j]? = some f → ∃ (v : Value) (y : DataW H × List MemPlace), w.cell? (a.add (i * fs.size + j)) = some v ∧ DataW.trod enc P w base spare held n f.type [v] = some y := by
  rcases open_slice ht h with h0 | ⟨a, len, cap, m, n, D, Pl, hcs, hb, hl, hm, hmm, hx, hi⟩
  · exact .inl h0
  · refine .inr ⟨a, len, cap, m, hcs, hl, hm, hmm, fun i him => ?_⟩
    obtain ⟨cs', hc, ht'⟩ := hi i him
    rw [hC] at hc
    obtain ⟨ys, n', hn', hy, hlen, hyl, hf⟩ := DataW.trod_struct he ht'
    obtain ⟨_, hcl, hat⟩ := World.cells?_some hc
    refine ⟨n', fun j f hj => ?_⟩
    obtain ⟨ho, hk⟩ := hone_of hone j f hj
    have hjl : j < fs.size := (Array.getElem?_eq_some_iff.1 hj).1
    have hcell := hat j hjl
    have hv : cs'[j]? = some (cs'[j]'(by omega)) := List.getElem?_eq_getElem (by omega)
    have h1 := hf j f hj
    rw [ho, hk] at h1
    have hone' : (cs'.drop j).take 1 = [cs'[j]'(by omega)] := by
      rw [List.drop_eq_getElem_cons (by omega)]
      rfl
    rw [hone'] at h1
    have hys : ys[j]? = some (ys[j]'(by omega)) := List.getElem?_eq_getElem (by omega)
    refine ⟨_, _, ?_, h1.trans hys⟩
    rw [← Go.Deep.add_add, hcell, hv]

/-- A reading of a []byte as cells, as bytes. -/
theorem bytes_of_cells {t e : TypeId} {fuel : Nat} {v : Value} {y : DataW H × List MemPlace} (ht : P.underlying t = some (.slice e)) (he : P.underlying e = some (.int .u8)) (hc : P.cellsOf e = 1)
    (h : DataW.trod enc P w 0 (fun _ => true) true fuel t [v] = some y) :
    ∃ (A : Option Addr) (n c : Nat) (l : List UInt8), v = .slice A n c ∧ l.length = n ∧ n ≤ c ∧ c ≤ maxLen ∧ Reads w w.heap.size A n (vbs l) := by
  rcases open_ints ht he hc h with ⟨hcs, _⟩ | ⟨x, l, c, zs, hcs, _, hl, hm, hz, _, hcell, hwz⟩
  · simp at hcs
    subst hcs
    exact ⟨none, 0, 0, [], rfl, rfl, Nat.le_refl _, Nat.zero_le _, Reads.none_⟩
  · simp at hcs
    subst hcs
    obtain ⟨b, h1, h2, h3, h4⟩ := reads_of_row (w := w) (a := some x) (len := l) (cap := c) (zs := zs) (.inr ⟨_, rfl, hl, hm, by simpa using hz, hcell, hwz⟩)
    exact ⟨_, _, _, b, rfl, h1, h2, h3, h4⟩
end

/-- The address of a cell that is there is written out. -/
theorem plain_of_cell {w : World} {a : Addr} {v : Value} (h : w.cell? (a.add 0) = some v) : a = ⟨a.block, a.off, none⟩ ∧ a.block < w.heap.size := by
  have e0 : a.add 0 = a := by simp [Addr.add]
  rw [e0] at h
  have hs := World.cell?_spot h
  refine ⟨by cases a; simp_all, ?_⟩
  have : (w.cell? a).isSome := by rw [h]; rfl
  simp only [World.cell?] at this
  split at this
  · rename_i hh; exact (Array.getElem?_eq_some_iff.1 hh).1
  · simp at this

/-! ### A slice of calls: kind, bytes, number -/
structure ActV where
  k : Int
  A : Option Addr
  m : Nat
  c : Nat
  b : List UInt8
  n : Int

/-- '.slice X len _' leads to the calls 'acts', each in three cells: a number, a slice of bytes, a number. -/
def ActsAt (w : World) (B : Nat) (X : Option Addr) (len : Nat) (acts : List ActV) : Prop :=
  acts.length = len ∧
  (0 < len → ∃ g o, X = some ⟨g, o, none⟩ ∧ g < B ∧ ∀ i a, acts[i]? = some a →
    w.cell? ⟨g, o + i * 3, none⟩ = some (.int .i64 a.k) ∧ w.cell? ⟨g, o + i * 3 + 1, none⟩ = some (.slice a.A a.m a.c) ∧ w.cell? ⟨g, o + i * 3 + 2, none⟩ = some (.int .i64 a.n)) ∧
  ∀ a, a ∈ acts → a.b.length = a.m ∧ a.m ≤ a.c ∧ a.c ≤ maxLen ∧ Reads w B a.A a.m (vbs a.b) ∧ -9223372036854775808 ≤ a.n ∧ a.n ≤ 9223372036854775807

theorem ActsAt.below {w w' : World} {B : Nat} {X : Option Addr} {len : Nat} {acts : List ActV} (h : ActsAt w B X len acts) (hb : Below B w w') : ActsAt w' B X len acts := by
  obtain ⟨h1, h2, h3⟩ := h
  refine ⟨h1, fun hl => ?_, fun a ha => ?_⟩
  · obtain ⟨g, o, e, hg, hc⟩ := h2 hl
    refine ⟨g, o, e, hg, fun i a hi => ?_⟩
    obtain ⟨c1, c2, c3⟩ := hc i a hi
    exact ⟨(hb.cell (p := ⟨g, _, none⟩) hg).trans c1, (hb.cell (p := ⟨g, _, none⟩) hg).trans c2, (hb.cell (p := ⟨g, _, none⟩) hg).trans c3⟩
  · obtain ⟨a1, a2, a3, a4, a5⟩ := h3 a ha
    exact ⟨a1, a2, a3, a4.below hb, a5⟩

theorem acts_of_trod {H : Type} {enc : TypeId × Value → H} {P : Program} {w : World} {t e s : TypeId} {f0 f1 f2 : Field} (ht : P.underlying t = some (.slice e)) (he : P.underlying e = some (.struct #[f0, f1, f2]))
    (hone : oneCellFields P #[f0, f1, f2] = true) (hC : P.cellsOf e = 3) (h0 : P.underlying f0.type = some (.int .i64)) (h1 : P.underlying f1.type = some (.slice s)) (hs : P.underlying s = some (.int .u8)) (hsc : P.cellsOf s = 1)
    (h2 : P.underlying f2.type = some (.int .i64)) {a : Option Addr} {len cap : Nat} {d : DataW H} {p : List MemPlace} (h : DataW.Trod enc P w 0 (fun _ => true) true t (.slice a len cap) d p) :
    len ≤ cap ∧ cap ≤ maxLen ∧ ∃ acts, ActsAt w w.heap.size a len acts := by
  obtain ⟨fuel, hf⟩ := h
  rcases open_slice_fields (fs := #[f0, f1, f2]) ht he hone hC hf with ⟨hcs, _⟩ | ⟨x, l, c, m, hcs, hl, hm, hmm, hi⟩
  · simp [Value.cells] at hcs
    obtain ⟨rfl, rfl, rfl⟩ := hcs
    exact ⟨Nat.le_refl _, Nat.zero_le _, [], rfl, fun h => absurd h (by omega), fun a ha => by cases ha⟩
  · simp [Value.cells] at hcs
    obtain ⟨rfl, rfl, rfl⟩ := hcs
    refine ⟨hl, hm, ?_⟩
    simp only [if_true] at hmm
    have one : ∀ i, i < len → ∃ av : ActV, (w.cell? (x.add (i * 3)) = some (.int .i64 av.k) ∧ w.cell? (x.add (i * 3 + 1)) = some (.slice av.A av.m av.c) ∧ w.cell? (x.add (i * 3 + 2)) = some (.int .i64 av.n)) ∧
        (av.b.length = av.m ∧ av.m ≤ av.c ∧ av.c ≤ maxLen ∧ Reads w w.heap.size av.A av.m (vbs av.b) ∧ -9223372036854775808 ≤ av.n ∧ av.n ≤ 9223372036854775807) := by
      intro i hil
      obtain ⟨n, hn⟩ := hi i (by omega)
      obtain ⟨v0, y0, c0, t0⟩ := hn 0 f0 rfl
      obtain ⟨v1, y1, c1, t1⟩ := hn 1 f1 rfl
      obtain ⟨v2, y2, c2, t2⟩ := hn 2 f2 rfl
      obtain ⟨k, e0, _, _⟩ := DataW.trod_int h0 t0
      obtain ⟨A, m', c', b, e1, r1, r2, r3, r4⟩ := bytes_of_cells h1 hs hsc t1
      obtain ⟨n', e2, _, w2⟩ := DataW.trod_int h2 t2
      simp at e0 e2
      subst e0 e1 e2
      have hb := wf_i64 w2
      exact ⟨⟨k, A, m', c', b, n'⟩, ⟨by simpa using c0, by simpa using c1, by simpa using c2⟩, r1, r2, r3, r4, hb.1, hb.2⟩
    have hinh : Inhabited ActV := ⟨⟨0, none, 0, 0, [], 0⟩⟩
    obtain ⟨f, hfn⟩ := choose_lt one
    refine ⟨(List.range len).map f, by simp, fun hl0 => ?_, fun av hav => ?_⟩
    · have hp := plain_of_cell (w := w) (a := x) (by simpa using (hfn 0 hl0).1.1)
      refine ⟨x.block, x.off, by rw [← hp.1], hp.2, fun i av hiv => ?_⟩
      simp only [List.getElem?_map, Option.map_eq_some_iff] at hiv
      obtain ⟨j, hj, rfl⟩ := hiv
      have hjl : i < len ∧ j = i := by
        obtain ⟨h1, h2⟩ := List.getElem?_eq_some_iff.1 hj
        simp at h1 h2
        exact ⟨h1, h2.symm⟩
      obtain ⟨hil, rfl⟩ := hjl
      have h3 := (hfn j hil).1
      rw [hp.1] at h3
      simp only [add_at] at h3
      exact h3
    · simp only [List.mem_map, List.mem_range] at hav
      obtain ⟨i, hil, rfl⟩ := hav
      exact (hfn i hil).2

end Go.Proofs.Yteclclidibmajaa
