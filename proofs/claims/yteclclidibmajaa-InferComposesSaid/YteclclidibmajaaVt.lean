/-
  Values of the data tree as they lie in memory: a tree with its addresses, and what a reading of an argument gives.
-/
import Derived.Test.YteclclidibmajaaOpen
import Derived.Lib.SmallJoins
namespace Go.Proofs.Yteclclidibmajaa
open Go.Joins Go.ChangeShapes Go.WideShapes Go.Deep Go.RowKit

/-- A value: kind, string, number, bool, where its items lie (address, capacity) and what they are, where its fields lie, their keys and their values. -/
inductive VT where
  | mk (k : Int) (s : ByteArray) (n : Int) (b : Bool) (A : Option Addr) (c : Nat) (xs : List VT) (F : Option Addr) (d : Nat) (ks : List ByteArray) (vs : List VT) : VT
namespace VT
def k : VT → Int | mk k _ _ _ _ _ _ _ _ _ _ => k
def s : VT → ByteArray | mk _ s _ _ _ _ _ _ _ _ _ => s
def n : VT → Int | mk _ _ n _ _ _ _ _ _ _ _ => n
def b : VT → Bool | mk _ _ _ b _ _ _ _ _ _ _ => b
def A : VT → Option Addr | mk _ _ _ _ A _ _ _ _ _ _ => A
def c : VT → Nat | mk _ _ _ _ _ c _ _ _ _ _ => c
def xs : VT → List VT | mk _ _ _ _ _ _ xs _ _ _ _ => xs
def F : VT → Option Addr | mk _ _ _ _ _ _ _ F _ _ _ => F
def d : VT → Nat | mk _ _ _ _ _ _ _ _ d _ _ => d
def ks : VT → List ByteArray | mk _ _ _ _ _ _ _ _ _ ks _ => ks
def vs : VT → List VT | mk _ _ _ _ _ _ _ _ _ _ vs => vs
/-- The six cells. -/
def c4 (t : VT) : Value := .slice t.A t.xs.length t.c
def c5 (t : VT) : Value := .slice t.F t.vs.length t.d
/-- The value itself. -/
def val (t : VT) : Value := .agg #[.int .i64 t.k, .string t.s, .int .i64 t.n, .bool t.b, t.c4, t.c5]

theorem size_xs {t x : VT} (h : x ∈ t.xs) : SizeOf.sizeOf x < SizeOf.sizeOf t := by
  cases t
  have := List.sizeOf_lt_of_mem h
  simp only [xs] at this
  simp only [VT.mk.sizeOf_spec]
  omega
theorem size_vs {t x : VT} (h : x ∈ t.vs) : SizeOf.sizeOf x < SizeOf.sizeOf t := by
  cases t
  have := List.sizeOf_lt_of_mem h
  simp only [vs] at this
  simp only [VT.mk.sizeOf_spec]
  omega
/-- Induction over a tree. -/
theorem ind {M : VT → Prop} (h : ∀ t, (∀ x, x ∈ t.xs → M x) → (∀ x, x ∈ t.vs → M x) → M t) (t : VT) : M t := by
  have key : ∀ n (t : VT), SizeOf.sizeOf t < n → M t := by
    intro n
    induction n with
    | zero => intro t ht; omega
    | succ n ih => intro t ht; exact h t (fun x hx => ih x (by have := size_xs hx; omega)) (fun x hx => ih x (by have := size_vs hx; omega))
  exact key _ t (Nat.lt_succ_self _)

/-- The value's six cells lie at block g from cell o on. -/
def Cells (w : World) (g o : Nat) (t : VT) : Prop :=
  w.cell? ⟨g, o, none⟩ = some (.int .i64 t.k) ∧ w.cell? ⟨g, o + 1, none⟩ = some (.string t.s) ∧ w.cell? ⟨g, o + 2, none⟩ = some (.int .i64 t.n) ∧
  w.cell? ⟨g, o + 3, none⟩ = some (.bool t.b) ∧ w.cell? ⟨g, o + 4, none⟩ = some (.slice t.A t.xs.length t.c) ∧ w.cell? ⟨g, o + 5, none⟩ = some (.slice t.F t.vs.length t.d)

/-- All that the value leads to lies in blocks of which Q holds. -/
inductive In (w : World) (Q : Nat → Prop) : VT → Prop
  | mk (t : VT) (hk : -9223372036854775808 ≤ t.k ∧ t.k ≤ 9223372036854775807) (hn : -9223372036854775808 ≤ t.n ∧ t.n ≤ 9223372036854775807) (hs : t.s.size ≤ reachBytes)
    (hc : t.xs.length ≤ t.c ∧ t.c ≤ maxLen ∧ t.xs.length * 88 ≤ reachBytes) (hd : t.vs.length ≤ t.d ∧ t.d ≤ maxLen ∧ t.vs.length * 104 ≤ reachBytes) (hkl : t.ks.length = t.vs.length)
    (hA : 0 < t.xs.length → ∃ g o, t.A = some ⟨g, o, none⟩ ∧ Q g ∧ ∀ i (x : VT), t.xs[i]? = some x → x.Cells w g (o + i * 6))
    (hF : 0 < t.vs.length → ∃ g o, t.F = some ⟨g, o, none⟩ ∧ Q g ∧ ∀ i (x : VT) key, t.ks[i]? = some key → t.vs[i]? = some x → w.cell? ⟨g, o + i * 7, none⟩ = some (.string key) ∧ x.Cells w g (o + i * 7 + 1))
    (hx : ∀ x, x ∈ t.xs → In w Q x) (hv : ∀ x, x ∈ t.vs → In w Q x) (hks : ∀ key, key ∈ t.ks → key.size ≤ reachBytes) : In w Q t

theorem Cells.same {w w' : World} {g o : Nat} {t : VT} (h : t.Cells w g o) (e : ∀ p, w'.cell? ⟨g, p, none⟩ = w.cell? ⟨g, p, none⟩) : t.Cells w' g o := by
  obtain ⟨h0, h1, h2, h3, h4, h5⟩ := h
  exact ⟨(e _).trans h0, (e _).trans h1, (e _).trans h2, (e _).trans h3, (e _).trans h4, (e _).trans h5⟩
theorem In.same {w w' : World} {Q Q' : Nat → Prop} {t : VT} (h : t.In w Q) (hq : ∀ g, Q g → Q' g) (e : ∀ g p, Q g → w'.cell? ⟨g, p, none⟩ = w.cell? ⟨g, p, none⟩) : t.In w' Q' := by
  induction h with
  | mk t hk hn hs hc hd hkl hA hF _ _ hks ihx ihv =>
    refine .mk t hk hn hs hc hd hkl (fun hl => ?_) (fun hl => ?_) ihx ihv hks
    · obtain ⟨g, o, e1, hg, hi⟩ := hA hl
      exact ⟨g, o, e1, hq g hg, fun i x hx => (hi i x hx).same fun p => e g p hg⟩
    · obtain ⟨g, o, e1, hg, hi⟩ := hF hl
      refine ⟨g, o, e1, hq g hg, fun i x key hx hy => ?_⟩
      obtain ⟨h1, h2⟩ := hi i x key hx hy
      exact ⟨(e _ _ hg).trans h1, h2.same fun p => e g p hg⟩
theorem In.old {w w' : World} {B : Nat} {t : VT} (h : t.In w (· < B)) (hb : Below B w w') : t.In w' (· < B) :=
  h.same (fun _ h => h) fun g p hg => hb.cell (p := ⟨g, p, none⟩) hg

variable {H : Type} {enc : TypeId × Value → H} {P : Program} {w : World}

theorem cells_of_agg {w : World} {g o : Nat} {cs : List Value} {t : VT} (h : Value.agg cs.toArray = t.val) (hat : ∀ i, i < 6 → w.cell? ⟨g, o + i, none⟩ = cs[i]?) : t.Cells w g o := by
  have e : cs = [.int .i64 t.k, .string t.s, .int .i64 t.n, .bool t.b, t.c4, t.c5] := by
    have := congrArg (fun v => match v with | Value.agg a => a.toList | _ => []) h
    simpa [val] using this
  subst e
  have f := hat
  exact ⟨f 0 (by omega), f 1 (by omega), f 2 (by omega), f 3 (by omega), f 4 (by omega), f 5 (by omega)⟩

theorem weightsAll_in {e : TypeId} : ∀ {ds : List (DataW H)} {d : DataW H} {n : Nat}, d ∈ ds → n ∈ d.weights P e → n ∈ DataW.weightsAll P e ds
  | d0 :: ds, d, n, hd, hn => by
    simp only [DataW.weightsAll, List.mem_append]
    rcases List.mem_cons.1 hd with rfl | h
    · exact .inl hn
    · exact .inr (weightsAll_in h hn)

/-- A reading of a slice of values, from one of values. -/
theorem items_of {V LV : TypeId} {N : Nat} (hVc : P.cellsOf V = 6) (hVb : 88 ≤ P.bytesOf V)
    (ih : ∀ m, m < N → ∀ (cs : List Value) (x : DataW H × List MemPlace), DataW.trod enc P w 0 (fun _ => true) true m V cs = some x → (∀ n, n ∈ x.1.weights P V → n ≤ reachBytes) → ∃ t : VT, Value.agg cs.toArray = t.val ∧ t.In w (· < w.heap.size))
    (ht : P.underlying LV = some (.slice V)) {fuel : Nat} {v : Value} {y : DataW H × List MemPlace} (h : DataW.trod enc P w 0 (fun _ => true) true fuel LV [v] = some y) (hN : fuel < N) (hw : ∀ n, n ∈ y.1.weights P LV → n ≤ reachBytes) :
    ∃ (A : Option Addr) (c : Nat) (xs : List VT), [v] = [.slice A xs.length c] ∧ (xs.length ≤ c ∧ c ≤ maxLen ∧ xs.length * 88 ≤ reachBytes) ∧
      (0 < xs.length → ∃ g o, A = some ⟨g, o, none⟩ ∧ g < w.heap.size ∧ ∀ i (x : VT), xs[i]? = some x → x.Cells w g (o + i * 6)) ∧ ∀ x, x ∈ xs → x.In w (· < w.heap.size) := by
  rcases DataW.trod_slice ht h with ⟨hcs, _⟩ | ⟨a, len, cap, elems, rest, n, hfu, hcs, hye, _, hl, hm, hlen, hel, _, _⟩
  · exact ⟨none, 0, [], hcs, ⟨Nat.le_refl _, Nat.zero_le _, Nat.zero_le _⟩, fun h => absurd h (by simp), fun x hx => by cases hx⟩
  · rw [hVc] at hel
    have hw2 : ∀ n, n ∈ (elems.length + rest.length) * P.bytesOf V :: (DataW.weightsAll P V (elems.map (·.1)) ++ DataW.weightsAll P V (rest.map (·.1))) → n ≤ reachBytes := by
      intro n hn
      refine hw n ?_
      rw [hye]
      unfold DataW.weights
      rw [ht]
      simpa using hn
    have hlr : len * 88 ≤ reachBytes := by
      have h1 := hw2 _ (List.mem_cons_self ..)
      have h2 : (elems.length + rest.length) * 88 ≤ (elems.length + rest.length) * P.bytesOf V := Nat.mul_le_mul_left _ hVb
      omega
    have one : ∀ i, i < len → ∃ t : VT, (∃ cs, w.cells? 0 (a.add (i * 6)) 6 = some cs ∧ Value.agg cs.toArray = t.val) ∧ t.In w (· < w.heap.size) := by
      intro i hi
      have h1 := hel i hi
      rw [List.getElem?_eq_getElem (by omega)] at h1
      obtain ⟨cs', c1, c2⟩ := Option.bind_eq_some_iff.1 h1
      obtain ⟨t, t1, t2⟩ := ih n (by omega) cs' _ c2 (fun m hm => hw2 m (List.mem_cons_of_mem _ (List.mem_append_left _ (weightsAll_in (List.mem_map_of_mem (List.getElem_mem _)) hm))))
      exact ⟨t, ⟨cs', c1, t1⟩, t2⟩
    have hinh : Inhabited VT := ⟨.mk 0 ByteArray.empty 0 false none 0 [] none 0 [] []⟩
    obtain ⟨f, hfn⟩ := choose_lt one
    refine ⟨some a, cap, (List.range len).map f, by simpa using hcs, by simpa using ⟨hl, hm, hlr⟩, fun hl0 => ?_, fun x hx => ?_⟩
    · simp only [List.length_map, List.length_range] at hl0
      obtain ⟨cs0, c0, e0⟩ := (hfn 0 hl0).1
      obtain ⟨_, _, hat⟩ := World.cells?_some c0
      have hp := plain_of_cell (w := w) (a := a) (v := cs0[0]'(by obtain ⟨_, hcl, _⟩ := World.cells?_some c0; omega)) (by
        have := hat 0 (by omega)
        simp only [Nat.zero_mul] at this
        rw [Go.Deep.add_add] at this
        rw [this]
        exact List.getElem?_eq_getElem _)
      refine ⟨a.block, a.off, by rw [← hp.1], hp.2, fun i x hix => ?_⟩
      simp only [List.getElem?_map, Option.map_eq_some_iff] at hix
      obtain ⟨j, hj, rfl⟩ := hix
      have hjl : i < len ∧ j = i := by
        obtain ⟨h1, h2⟩ := List.getElem?_eq_some_iff.1 hj
        simp at h1 h2
        exact ⟨h1, h2.symm⟩
      obtain ⟨hil, rfl⟩ := hjl
      obtain ⟨cs1, c1, e1⟩ := (hfn j hil).1
      rw [hp.1, add_at] at c1
      obtain ⟨_, _, hat1⟩ := World.cells?_some c1
      exact cells_of_agg e1 fun i hi => by have := hat1 i hi; rwa [add_at] at this
    · simp only [List.mem_map, List.mem_range] at hx
      obtain ⟨i, hil, rfl⟩ := hx
      exact (hfn i hil).2

/-- A reading of a slice of fields, from one of values. -/
theorem fields_of {V Fd LF : TypeId} {g0 g1 : Field} {N : Nat} (hVc : P.cellsOf V = 6) (hFb : 104 ≤ P.bytesOf Fd) (hFd : P.underlying Fd = some (.struct #[g0, g1])) (hFc : P.cellsOf Fd = 7)
    (k0 : P.underlying g0.type = some .string) (k1 : g1.type = V) (o0 : g0.offset = 0) (o1 : g1.offset = 1) (kc : P.cellsOf g0.type = 1)
    (ih : ∀ m, m < N → ∀ (cs : List Value) (x : DataW H × List MemPlace), DataW.trod enc P w 0 (fun _ => true) true m V cs = some x → (∀ n, n ∈ x.1.weights P V → n ≤ reachBytes) → ∃ t : VT, Value.agg cs.toArray = t.val ∧ t.In w (· < w.heap.size))
    (ht : P.underlying LF = some (.slice Fd)) {fuel : Nat} {v : Value} {y : DataW H × List MemPlace} (h : DataW.trod enc P w 0 (fun _ => true) true fuel LF [v] = some y) (hN : fuel < N) (hw : ∀ n, n ∈ y.1.weights P LF → n ≤ reachBytes) :
    ∃ (F : Option Addr) (d : Nat) (ks : List ByteArray) (vs : List VT), [v] = [.slice F vs.length d] ∧ ks.length = vs.length ∧ (vs.length ≤ d ∧ d ≤ maxLen ∧ vs.length * 104 ≤ reachBytes) ∧
      (0 < vs.length → ∃ g o, F = some ⟨g, o, none⟩ ∧ g < w.heap.size ∧ ∀ i (x : VT) key, ks[i]? = some key → vs[i]? = some x → w.cell? ⟨g, o + i * 7, none⟩ = some (.string key) ∧ x.Cells w g (o + i * 7 + 1)) ∧
      (∀ x, x ∈ vs → x.In w (· < w.heap.size)) ∧ ∀ key, key ∈ ks → key.size ≤ reachBytes := by
  rcases DataW.trod_slice ht h with ⟨hcs, _⟩ | ⟨a, len, cap, elems, rest, n, hfu, hcs, hye, _, hl, hm, hlen, hel, _, _⟩
  · exact ⟨none, 0, [], [], hcs, rfl, ⟨Nat.le_refl _, Nat.zero_le _, Nat.zero_le _⟩, fun h => absurd h (by simp), (fun x hx => by cases hx), fun x hx => by cases hx⟩
  · rw [hFc] at hel
    have hw2 : ∀ n, n ∈ (elems.length + rest.length) * P.bytesOf Fd :: (DataW.weightsAll P Fd (elems.map (·.1)) ++ DataW.weightsAll P Fd (rest.map (·.1))) → n ≤ reachBytes := by
      intro n hn
      refine hw n ?_
      rw [hye]
      unfold DataW.weights
      rw [ht]
      simpa using hn
    have hlr : len * 104 ≤ reachBytes := by
      have h1 := hw2 _ (List.mem_cons_self ..)
      have h2 : (elems.length + rest.length) * 104 ≤ (elems.length + rest.length) * P.bytesOf Fd := Nat.mul_le_mul_left _ hFb
      omega
    have one : ∀ i, i < len → ∃ p : ByteArray × VT, (∃ cs, w.cells? 0 (a.add (i * 7)) 7 = some cs ∧ ∃ cs', cs = .string p.1 :: cs' ∧ cs'.length = 6 ∧ Value.agg cs'.toArray = p.2.val) ∧ p.2.In w (· < w.heap.size) ∧ p.1.size ≤ reachBytes := by
      intro i hi
      have h1 := hel i hi
      rw [List.getElem?_eq_getElem (by omega)] at h1
      obtain ⟨cs', c1, c2⟩ := Option.bind_eq_some_iff.1 h1
      have hw3 : ∀ n, n ∈ (elems[i]'(by omega)).1.weights P Fd → n ≤ reachBytes := fun m hm => hw2 m (List.mem_cons_of_mem _ (List.mem_append_left _ (weightsAll_in (List.mem_map_of_mem (List.getElem_mem _)) hm)))
      obtain ⟨ys, n', hn', hyy, hlen', hyl, hf⟩ := DataW.trod_struct hFd c2
      rw [hyy] at hw3
      rw [hFc] at hlen'
      match cs', hlen' with
      | [v0, v1, v2, v3, v4, v5, v6], _ =>
        have at0 := hf 0 g0 rfl
        have at1 := hf 1 g1 rfl
        rw [o0, kc] at at0
        rw [o1, k1, hVc] at at1
        simp only [List.drop_zero, List.drop_succ_cons, List.take_succ_cons, List.take_zero] at at0 at1
        match ys, hyl with
        | [y0, y1], _ =>
        have hw4 : ∀ n, n ∈ y0.1.weights P g0.type ++ (y1.1.weights P V ++ []) → n ≤ reachBytes := by
          intro m hm
          refine hw3 m ?_
          unfold DataW.weights
          rw [hFd]
          simp only [List.map_cons, List.map_nil, DataW.weightsEach, k1]
          exact hm
        simp only [List.getElem?_cons_zero, List.getElem?_cons_succ] at at0 at1
        obtain ⟨s, e0, ey0, w0⟩ := DataW.trod_string k0 at0
        have w0 : s.size ≤ reachBytes := hw4 _ (List.mem_append_left _ (by rw [ey0]; simp [DataW.weights]))
        obtain ⟨t, t1, t2⟩ := ih n' (by omega) _ _ at1 (fun m hm => hw4 m (List.mem_append_right _ (List.mem_append_left _ hm)))
        simp only [List.cons.injEq, and_true] at e0
        subst e0
        exact ⟨(s, t), ⟨_, c1, _, rfl, rfl, t1⟩, t2, w0⟩
    have hinh : Inhabited (ByteArray × VT) := ⟨(ByteArray.empty, .mk 0 ByteArray.empty 0 false none 0 [] none 0 [] [])⟩
    obtain ⟨f, hfn⟩ := choose_lt one
    refine ⟨some a, cap, (List.range len).map (fun i => (f i).1), (List.range len).map (fun i => (f i).2), by simpa using hcs, by simp, by simpa using ⟨hl, hm, hlr⟩, fun hl0 => ?_, fun x hx => ?_, fun x hx => ?_⟩
    · simp only [List.length_map, List.length_range] at hl0
      obtain ⟨cs0, c0, _⟩ := (hfn 0 hl0).1
      obtain ⟨_, _, hat⟩ := World.cells?_some c0
      have hp := plain_of_cell (w := w) (a := a) (v := cs0[0]'(by obtain ⟨_, hcl, _⟩ := World.cells?_some c0; omega)) (by
        have := hat 0 (by omega)
        simp only [Nat.zero_mul] at this
        rw [Go.Deep.add_add] at this
        rw [this]
        exact List.getElem?_eq_getElem _)
      refine ⟨a.block, a.off, by rw [← hp.1], hp.2, fun i x key hik hix => ?_⟩
      simp only [List.getElem?_map, Option.map_eq_some_iff] at hix hik
      obtain ⟨j, hj, rfl⟩ := hix
      obtain ⟨j', hj', rfl⟩ := hik
      have hjl : i < len ∧ j = i := by
        obtain ⟨h1, h2⟩ := List.getElem?_eq_some_iff.1 hj
        simp at h1 h2
        exact ⟨h1, h2.symm⟩
      obtain ⟨hil, rfl⟩ := hjl
      obtain rfl : j' = j := Option.some.inj (hj'.symm.trans hj)
      obtain ⟨cs1, c1, cs2, rfl, hl2, e1⟩ := (hfn j' hil).1
      rw [hp.1, add_at] at c1
      obtain ⟨_, _, hat1⟩ := World.cells?_some c1
      refine ⟨by have := hat1 0 (by omega); rwa [add_at] at this, cells_of_agg e1 ?_⟩
      intro i hi
      have := hat1 (i + 1) (by omega)
      rw [add_at, List.getElem?_cons_succ] at this
      rw [← this]
      congr 2
      omega
    · simp only [List.mem_map, List.mem_range] at hx
      obtain ⟨i, hil, rfl⟩ := hx
      exact (hfn i hil).2.1
    · simp only [List.mem_map, List.mem_range] at hx
      obtain ⟨i, hil, rfl⟩ := hx
      exact (hfn i hil).2.2

/-- A reading of a value's six cells. -/
theorem of_trod {V Fd : TypeId} {f0 f1 f2 f3 f4 f5 g0 g1 : Field} (hV : P.underlying V = some (.struct #[f0, f1, f2, f3, f4, f5])) (hone : oneCellFields P #[f0, f1, f2, f3, f4, f5] = true)
    (hVc : P.cellsOf V = 6) (hVb : 88 ≤ P.bytesOf V) (hFd : P.underlying Fd = some (.struct #[g0, g1])) (hFc : P.cellsOf Fd = 7) (hFb : 104 ≤ P.bytesOf Fd) (t0 : P.underlying f0.type = some (.int .i64)) (t1 : P.underlying f1.type = some .string)
    (t2 : P.underlying f2.type = some (.int .i64)) (t3 : P.underlying f3.type = some .bool) (t4 : P.underlying f4.type = some (.slice V)) (t5 : P.underlying f5.type = some (.slice Fd))
    (k0 : P.underlying g0.type = some .string) (k1 : g1.type = V) (o0 : g0.offset = 0) (o1 : g1.offset = 1) (kc : P.cellsOf g0.type = 1) :
    ∀ (fuel : Nat) (cs : List Value) (x : DataW H × List MemPlace), DataW.trod enc P w 0 (fun _ => true) true fuel V cs = some x → (∀ n, n ∈ x.1.weights P V → n ≤ reachBytes) → ∃ t : VT, Value.agg cs.toArray = t.val ∧ t.In w (· < w.heap.size) := by
  intro fuel
  induction fuel using Nat.strongRecOn with
  | _ fuel ih =>
    intro cs x h hw
    obtain ⟨ys, n, rfl, hyy, hlen, hyl, hf⟩ := DataW.trod_struct hV h
    rw [hyy] at hw
    rw [hVc] at hlen
    simp only [List.size_toArray, List.length_cons, List.length_nil] at hyl
    match cs, hlen with
    | [v0, v1, v2, v3, v4, v5], _ =>
      have at0 := hf 0 f0 rfl
      have at1 := hf 1 f1 rfl
      have at2 := hf 2 f2 rfl
      have at3 := hf 3 f3 rfl
      have at4 := hf 4 f4 rfl
      have at5 := hf 5 f5 rfl
      obtain ⟨a0, b0⟩ := hone_of hone 0 f0 rfl
      obtain ⟨a1, b1⟩ := hone_of hone 1 f1 rfl
      obtain ⟨a2, b2⟩ := hone_of hone 2 f2 rfl
      obtain ⟨a3, b3⟩ := hone_of hone 3 f3 rfl
      obtain ⟨a4, b4⟩ := hone_of hone 4 f4 rfl
      obtain ⟨a5, b5⟩ := hone_of hone 5 f5 rfl
      rw [a0, b0] at at0; rw [a1, b1] at at1; rw [a2, b2] at at2; rw [a3, b3] at at3; rw [a4, b4] at at4; rw [a5, b5] at at5
      simp only [List.drop_zero, List.drop_succ_cons, List.take_succ_cons, List.take_zero] at at0 at1 at2 at3 at4 at5
      match ys, hyl with
      | [y0, y1, y2, y3, y4, y5], _ =>
      have hw4 : ∀ n, n ∈ y0.1.weights P f0.type ++ (y1.1.weights P f1.type ++ (y2.1.weights P f2.type ++ (y3.1.weights P f3.type ++ (y4.1.weights P f4.type ++ (y5.1.weights P f5.type ++ []))))) → n ≤ reachBytes := by
        intro m hm
        refine hw m ?_
        unfold DataW.weights
        rw [hV]
        simp only [List.map_cons, List.map_nil, DataW.weightsEach]
        exact hm
      simp only [List.getElem?_cons_zero, List.getElem?_cons_succ] at at0 at1 at2 at3 at4 at5
      obtain ⟨k, e0, _, w0⟩ := DataW.trod_int t0 at0
      obtain ⟨s, e1, ey1, _⟩ := DataW.trod_string t1 at1
      have w1 : s.size ≤ reachBytes := hw4 _ (List.mem_append_right _ (List.mem_append_left _ (by rw [ey1]; simp [DataW.weights])))
      obtain ⟨m, e2, _, w2⟩ := DataW.trod_int t2 at2
      obtain ⟨b, e3, _⟩ := DataW.trod_bool t3 at3
      simp only [List.cons.injEq, and_true] at e0 e1 e2 e3
      subst e0 e1 e2 e3
      obtain ⟨A, c, xs, e4, hc, hA, hxs⟩ := items_of hVc hVb ih t4 at4 (Nat.lt_succ_self n) (fun m hm => hw4 m (by simp only [List.mem_append]; exact .inr (.inr (.inr (.inr (.inl hm))))))
      obtain ⟨F, d, ks, vs, e5, hkl, hd, hF, hvs, hks⟩ := fields_of hVc hFb hFd hFc k0 k1 o0 o1 kc ih t5 at5 (Nat.lt_succ_self n) (fun m hm => hw4 m (by simp only [List.mem_append]; exact .inr (.inr (.inr (.inr (.inr (.inl hm)))))))
      simp only [List.cons.injEq, and_true] at e4 e5
      subst e4 e5
      exact ⟨.mk k s m b A c xs F d ks vs, rfl, .mk _ (wf_i64 w0) (wf_i64 w2) w1 hc hd hkl hA hF hxs hvs hks⟩
end VT
end Go.Proofs.Yteclclidibmajaa
