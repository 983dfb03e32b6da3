/-
  Checking looks at no address; both providers from a place on; rows that are written over.
-/
import Derived.Test.YtollcekcmnokaaaDuo10
import Derived.Test.YtollcekcmnokaaaOnce10
import Derived.Test.YtollcekcmnokaaaOpen10
namespace Go.Proofs.Ytollcekcmnokaaa
open Go.RowKit Go.BigFrame
set_option linter.unusedVariables false
set_option linter.unusedSimpArgs false

theorem twice_plain {a b : VT} (h : a.ks = b.ks) (i : Nat) : a.twice i = b.twice i := by unfold VT.twice; rw [h]
/-- Check's number is the same for values that are the same but for their addresses. -/
theorem chk_plain : ∀ (f f' : Nat) (a b : VT) (d : Int), SizeOf.sizeOf a < f → SizeOf.sizeOf b < f' → a.plain = b.plain → VT.chk f a d = VT.chk f' b d := by
  intro f
  induction f with
  | zero => intro f' a b d h; omega
  | succ f ih =>
    intro f' a b d ha hb h
    obtain ⟨f', rfl⟩ : ∃ g, f' = g + 1 := ⟨f' - 1, by omega⟩
    obtain ⟨h1, h2, h3, h4, h5, h6, h7, h8, h9⟩ := VT.plain_item h
    have hfo : a.foreign = b.foreign := by unfold VT.foreign; rw [h1, h2, h3, h4, h5, h7]
    have e1 : first (fun i => VT.chk f (a.item i) (d + 1)) a.xs.length = first (fun i => VT.chk f' (b.item i) (d + 1)) b.xs.length := by
      rw [← h5]
      exact first_congr fun i hi => ih f' _ _ _ (by have := VT.item_size hi; omega) (by have := VT.item_size (t := b) (i := i) (by omega); omega) (h8 i hi)
    have e2 : first (fun i => if !nameB (a.key i) then 11 else if a.twice i then 12 else VT.chk f (a.value i) (d + 1)) a.vs.length = first (fun i => if !nameB (b.key i) then 11 else if b.twice i then 12 else VT.chk f' (b.value i) (d + 1)) b.vs.length := by
      rw [← h7]
      refine first_congr fun i hi => ?_
      rw [VT.plain_key h6 i, twice_plain h6 i, ih f' _ _ _ (by have := VT.value_size hi; omega) (by have := VT.value_size (t := b) (i := i) (by omega); omega) (h9 i hi)]
    rw [VT.chk, VT.chk, h1, hfo, e1, e2]
theorem newE_addr (F F' : Option Addr) (d d' : Nat) (ks : List ByteArray) (vs : List VT) (fail : List ByteArray) : newE (mapT F d ks vs) fail = newE (mapT F' d' ks vs) fail := by
  have h : (mapT F d ks vs).plain = (mapT F' d' ks vs).plain := by rw [VT.plain_eq, VT.plain_eq]; rfl
  unfold newE
  rw [chk_plain _ _ _ _ _ (Nat.lt_succ_self _) (Nat.lt_succ_self _) h]

/-- Both providers, in blocks from lo on. -/
def DuoL (lo : Nat) (t : VT) (ks : List ByteArray) (vs : List VT) (fail : List ByteArray) (r r2 : Nat) (ps ps2 : List ByteArray) (w W : World) : Prop :=
  w.heap.size ≤ lo ∧ lo ≤ W.heap.size ∧ ∃ T U, Bel w W ∧ Pr t fail r ps W T ∧ Rf ks vs fail r2 ps2 w.heap.size W U ∧ (∀ k, k ∈ T → lo ≤ k) ∧ (∀ k, k ∈ U → lo ≤ k) ∧ ∀ k, k ∈ T → k ∉ U
theorem DuoL.duo {lo : Nat} {t : VT} {ks : List ByteArray} {vs : List VT} {fail : List ByteArray} {r r2 : Nat} {ps ps2 : List ByteArray} {w W : World} (h : DuoL lo t ks vs fail r r2 ps ps2 w W) : Duo t ks vs fail r r2 ps ps2 w W := by
  obtain ⟨h0, _, T, U, h1, h2, h3, h4, h5, h6⟩ := h
  exact ⟨T, U, h1, h2, h3, fun k hk => Nat.le_trans h0 (h4 k hk), fun k hk => Nat.le_trans h0 (h5 k hk), h6⟩
theorem DuoL.only {lo : Nat} {t : VT} {ks : List ByteArray} {vs : List VT} {fail : List ByteArray} {r r2 : Nat} {ps ps2 : List ByteArray} {w W W' : World} {S : List Nat} (h : DuoL lo t ks vs fail r r2 ps ps2 w W) (ho : Only S W W') (hS : ∀ k, k ∈ S → w.heap.size ≤ k ∧ k < lo) : DuoL lo t ks vs fail r r2 ps ps2 w W' := by
  obtain ⟨h0, h00, T, U, h1, h2, h3, h4, h5, h6⟩ := h
  exact ⟨h0, Nat.le_trans h00 ho.size, T, U, bel_on h1 ho (fun k hk => (hS k hk).1), h2.only ho (fun k hk hm => by have := h4 k hk; have := (hS k hm).2; omega), h3.only ho (fun k hk hm => by have := h5 k hk; have := (hS k hm).2; omega) (fun k hk => (hS k hk).1), h4, h5, h6⟩
theorem duoL_start {t : VT} {ks : List ByteArray} {vs : List VT} {fail : List ByteArray} {r r2 : Nat} {w w2 w3 w4 : World} {T U : List Nat} (hb : Bel w w2) (hb3 : Bel w2 w3) (hpr : Pr t fail r [] w3 T) (hT : ∀ k, k ∈ T → w2.heap.size ≤ k) (hb4 : Bel w3 w4) (hrf : Rf ks vs fail r2 [] w.heap.size w4 U) (hU : ∀ k, k ∈ U → w3.heap.size ≤ k) :
    DuoL w2.heap.size t ks vs fail r r2 [] [] w w4 := by
  have s2 := hb.size
  have s3 := hb3.size
  have s4 := hb4.size
  exact ⟨s2, by omega, T, U, (hb.trans hb3).trans hb4, hpr.bel hb4, hrf, hT, fun k hk => Nat.le_trans s3 (hU k hk), fun k hk hm => by have := hpr.lt k hk; have := hU k hm; omega⟩
/-- A row made by an append onto nothing. -/
theorem fresh_row {α : Type} {e : TypeId} {z : Nat} {f : α → List Value} {l : List α} {w w2 : World} {A2 : Option Addr} {c2 : Nat} {o : Obj} (hr : KRow w2 e z f A2 c2 (([] : List α) ++ l)) (ho : Only (rowT (some ⟨w.heap.size, 0, none⟩)) (w.alloc o) w2)
    (hk : ∀ k, k ∈ rowT A2 → k ∈ rowT (some ⟨w.heap.size, 0, none⟩) ∨ k = (w.alloc o).heap.size) : KRow w2 e z f A2 c2 l ∧ Bel w w2 ∧ ∀ k, k ∈ rowT A2 → w.heap.size ≤ k := by
  refine ⟨hr, bel_on (Bel.alloc w o) ho (fun k hk' => by simp [rowT] at hk'; omega), fun k hk' => ?_⟩
  rcases hk k hk' with h | h
  · simp [rowT] at h; omega
  · simp at h; omega
/-- A field written over. -/
theorem over7_at (a : ByteArray × VT) (b : ByteArray × VT) : ∀ j, j < 7 → (fF a)[j]? = if 0 ≤ j ∧ j < 0 + (fF a).length then (fF a)[j - 0]? else (fF b)[j]? := by
  intro j hj
  rw [if_pos (by rw [fF_len]; omega)]
  rfl
theorem over1_at (a : ByteArray) (b : ByteArray) : ∀ j, j < 1 → (fS a)[j]? = if 0 ≤ j ∧ j < 0 + (fS a).length then (fS a)[j - 0]? else (fS b)[j]? := by
  intro j hj
  rw [if_pos (by rw [fS_len]; omega)]
  rfl
theorem over7 {w : World} {A : Option Addr} {c g o : Nat} {l : List (ByteArray × VT)} (h : KRow w 49 7 fF A c l) (hA : A = some ⟨g, o, none⟩) {i : Nat} (hi : i < l.length) (a : ByteArray × VT) : ∃ l' : List (ByteArray × VT), l'.length = l.length ∧ KRow (setC w g (o + (i * 7 + 0)) (fF a)) 49 7 fF A c l' :=
  ⟨l.set i a, List.length_set, h.setC fF_len hA (by rw [fF_len]; omega) (List.getElem?_eq_getElem hi) (over7_at a _)⟩
theorem over1 {w : World} {A : Option Addr} {c g o : Nat} {l : List ByteArray} (h : KRow w 9 1 fS A c l) (hA : A = some ⟨g, o, none⟩) {i : Nat} (hi : i < l.length) (a : ByteArray) : ∃ l' : List ByteArray, l'.length = l.length ∧ KRow (setC w g (o + (i * 1 + 0)) (fS a)) 9 1 fS A c l' :=
  ⟨l.set i a, List.length_set, h.setC fS_len hA (by rw [fS_len]; omega) (List.getElem?_eq_getElem hi) (over1_at a _)⟩
end Go.Proofs.Ytollcekcmnokaaa
