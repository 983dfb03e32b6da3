/-
  slices.Chunk of bytes: the contract of its iterator.
-/
import Derived.Test.YtfchkaoifbcgkaaDoorRange
import Derived.Test.YtfchkaoifbcgkaaDoorText
import Derived.Test.YtfchkaoifbcgkaaDoorChunk
namespace Go.Proofs.YtfchkaoifbcgkaaDoor
open Go.RowKit Go.BigFrame Go.Shelf
set_option linter.unusedVariables false
set_option linter.unusedSimpArgs false
attribute [local go_sem ↓] sliced_cut run_min2 run_max2
attribute [local go_sem] cutA_zero
attribute [local go_sem] Oper.semAt_some

/-- A piece of a payload of m bytes, at most k long: where it begins, how long it is. -/
structure Cut (m k : Nat) where
  off : Nat
  len : Nat
  le : off + len ≤ m
  pos : 0 < len
  most : len ≤ k
def Cut.bytes {m k : Nat} (x : Cut m k) (l : List UInt8) : List UInt8 := (l.drop x.off).take x.len
/-- The pieces from place i on. -/
def cutsFrom (m k : Nat) (hk : 0 < k) (i : Nat) : List (Cut m k) :=
  if h : i < m then ⟨i, min k (m - i), by omega, by omega, by omega⟩ :: cutsFrom m k hk (i + k) else []
termination_by m - i
theorem cutsFrom_end {m k : Nat} (hk : 0 < k) {i : Nat} (h : ¬ i < m) : cutsFrom m k hk i = [] := by rw [cutsFrom, dif_neg h]
theorem cutsFrom_more {m k : Nat} (hk : 0 < k) {i : Nat} (h : i < m) : cutsFrom m k hk i = ⟨i, min k (m - i), by omega, by omega, by omega⟩ :: cutsFrom m k hk (i + k) := by rw [cutsFrom, dif_pos h]
theorem cutsFrom_length {m k : Nat} (hk : 0 < k) : ∀ (n i : Nat), m - i ≤ n → (cutsFrom m k hk i).length ≤ n := by
  intro n
  induction n with
  | zero => intro i h; rw [cutsFrom_end hk (by omega)]; simp
  | succ n ih =>
    intro i h
    by_cases hi : i < m
    · rw [cutsFrom_more hk hi]
      have := ih (i + k) (by omega)
      rw [List.length_cons]
      omega
    · rw [cutsFrom_end hk hi]; simp
/-- The chunks of the pieces. -/
def chunksAt {m k : Nat} (l : List UInt8) (xs : List (Cut m k)) : List UInt8 := (xs.map fun x => chunkOf (x.bytes l)).flatten
theorem chunksAt_snoc {m k : Nat} (l : List UInt8) (xs : List (Cut m k)) (x : Cut m k) : chunksAt l (xs ++ [x]) = chunksAt l xs ++ chunkOf (x.bytes l) := by
  simp [chunksAt]
theorem chunksAt_le {m k : Nat} (hk : k ≤ 65536) (l : List UInt8) : ∀ xs : List (Cut m k), (chunksAt l xs).length ≤ 65545 * xs.length
  | [] => by simp [chunksAt]
  | x :: xs => by
    have h1 := chunksAt_le hk l xs
    have h2 : (x.bytes l).length ≤ 65536 := by have := x.most; simp [Cut.bytes]; omega
    have h3 := chunkOf_le h2
    simp only [chunksAt, List.map_cons, List.flatten_cons, List.length_append, List.length_cons] at h1 ⊢
    omega
theorem chunks_of_cuts {m k : Nat} (hk : 0 < k) (l : List UInt8) (hl : l.length = m) : ∀ (n i : Nat), m - i ≤ n → chunksAt l (cutsFrom m k hk i) = chunksOf k (l.drop i) := by
  intro n
  induction n with
  | zero => intro i h; rw [cutsFrom_end hk (by omega), List.drop_of_length_le (by omega), chunksOf_nil]; rfl
  | succ n ih =>
    intro i h
    by_cases hi : i < m
    · rw [cutsFrom_more hk hi, chunksOf_pos hk (by simp; omega), List.drop_drop]
      have := ih (i + k) (by omega)
      simp only [chunksAt, List.map_cons, List.flatten_cons] at this ⊢
      rw [this]
      congr 2
      simp only [Cut.bytes]
      by_cases hkm : k ≤ m - i
      · rw [Nat.min_eq_left hkm]
      · rw [Nat.min_eq_right (by omega), List.take_of_length_le (by simp; omega), List.take_of_length_le (by simp; omega)]
    · rw [cutsFrom_end hk hi, List.drop_of_length_le (by omega), chunksOf_nil]; rfl
/-- A piece as a slice. -/
def Cut.val {m k : Nat} (A : Option Addr) (x : Cut m k) : Value := .slice (cutA (x.off + x.len) x.off 1 A) x.len x.len

/-- The iterator's two boxes lie as they lay: what a round's body must keep. -/
def Keep2 (bs bn : Nat) (W W' : World) : Prop := W'.heap[bs]? = W.heap[bs]? ∧ W'.heap[bn]? = W.heap[bn]?
theorem Keep2.refl (bs bn : Nat) (W : World) : Keep2 bs bn W W := ⟨rfl, rfl⟩
theorem Keep2.trans {bs bn : Nat} {A B C : World} (h : Keep2 bs bn A B) (k : Keep2 bs bn B C) : Keep2 bs bn A C := ⟨k.1.trans h.1, k.2.trans h.2⟩
theorem Keep2.put {bs bn : Nat} {w : World} (h1 : bs < w.heap.size) (h2 : bn < w.heap.size) (W : World) (l : Nat) (o o' : Obj) (hl : w.heap.size ≤ l) (_ : W.heap[l]? = some o) (_ : o.isCells = false) (_ : o.isWalk = false) : Keep2 bs bn W (W.putObj l o') :=
  ⟨World.putObj_heap_other (by omega), World.putObj_heap_other (by omega)⟩
theorem Keep2.only {bs bn : Nat} {W W' : World} {S : List Nat} (h : Only S W W') (h1 : bs < W.heap.size) (h2 : bn < W.heap.size) (hs : bs ∉ S) (hn : bn ∉ S) : Keep2 bs bn W W' := ⟨h.block _ h1 hs, h.block _ h2 hn⟩
theorem Keep2.cell1 {bs bn : Nat} {W W' : World} (h : Keep2 bs bn W W') (i : Nat) : W'.cell? ⟨bs, i, none⟩ = W.cell? ⟨bs, i, none⟩ := World.cell?_of_block h.1
theorem Keep2.cell2 {bs bn : Nat} {W W' : World} (h : Keep2 bs bn W W') (i : Nat) : W'.cell? ⟨bn, i, none⟩ = W.cell? ⟨bn, i, none⟩ := World.cell?_of_block h.2

set_option maxRecDepth 100000 in
set_option maxHeartbeats 2000000 in
/-- The closure that slices.Chunk hands back, for every loop body that keeps its two boxes. -/
theorem chunk1_in (n : Nat) (l bs bn m d k : Nat) (A : Option Addr) (hk : 0 < k) (hk2 : k ≤ 65536) (hm : m ≤ 1048576) (hmd : m ≤ d) (hd : d ≤ 9223372036854775807) (J Jx : List (Cut m k) → World → Prop)
    (hY : ∀ pre x W, J pre W → pre.length < m → YieldAt Fence.wide (n - 1) Tryd.prog l #[x.val A] W fun e W' =>
      (e = .returned (.bool true) ∧ J (pre ++ [x]) W' ∧ Keep2 bs bn W W') ∨ (e = .returned (.bool false) ∧ Jx (pre ++ [x]) W'))
    (hJd : ∀ pre W, J pre W → J pre W.drew) (W : World) (hcs : W.cell? ⟨bs, 0, none⟩ = some (.slice A m d)) (hcn : W.cell? ⟨bn, 0, none⟩ = some (.int .i64 k)) (h0 : J [] W) :
    CallsIn Fence.wide n Tryd.prog 33 #[.func (.yield l) #[] #[], .pointer (some ⟨bs, 0, none⟩), .pointer (some ⟨bn, 0, none⟩)] W fun e W' => (∃ v, e = .returned v) ∧
      ((∃ ys, ys = cutsFrom m k hk 0 ∧ J ys W') ∨ (∃ pre, True ∧ Jx pre W')) := by
  refine callsIn_of_wp Tryd.func33 rfl trivial ?_ rfl
  simp only [Tryd.ntmps33, List.size_toArray, List.length_cons, List.length_nil, Nat.reduceAdd, Nat.reduceSub, Array.replicate_succ, Array.replicate_zero, List.push_toArray, List.append_toArray, List.nil_append, List.cons_append]
  gi_wp2
  gi_loopw [4] (fun s4 wr => ∃ (i : Nat) (pre : List (Cut m k)), s4 = .int .i64 i ∧ i ≤ 1048576 + 65536 ∧ Hid (pre ++ cutsFrom m k hk i = cutsFrom m k hk 0) ∧ Hid (J pre wr) ∧ Hid (Keep2 bs bn W wr)) (fun s4 _ => m - (intOf s4).toNat)
  case atStart => exact ⟨0, [], rfl, by omega, Lib.hid (by simp), Lib.hid h0, Lib.hid (Keep2.refl _ _ _)⟩
  case round =>
    obtain ⟨i, pre, rfl, hi, hpre, hJ, hB⟩ := hrel
    have hcs2 : wr.cell? ⟨bs, 0, none⟩ = some (.slice A m d) := (hB.out.cell1 0).trans hcs
    have hcn2 : wr.cell? ⟨bn, 0, none⟩ = some (.int .i64 k) := (hB.out.cell2 0).trans hcn
    by_cases hlt : i < m
    · gi_wp2
      refine wpIn_wide.2 ?_
      refine region_begin (T := []) (by kernel_rfl) ?_
      have s1 : ∀ x : Later [] wr.drew, x.w.cell? ⟨bs, 0, none⟩ = some (.slice A m d) := fun x => cell_only hcs2 (((Only.refl [] wr).drew).trans x.h) (by simp)
      have s2 : ∀ x : Later [] wr.drew, x.w.cell? ⟨bn, 0, none⟩ = some (.int .i64 k) := fun x => cell_only hcn2 (((Only.refl [] wr).drew).trans x.h) (by simp)
      have hid1 : (i : Int) ≤ (d : Int) := by omega
      obtain ⟨q, hq⟩ : ∃ q, q = min k (m - i) := ⟨_, rfl⟩
      have hmin : imin (k : Int) ((m - i : Nat) : Int) = (q : Int) := by have := imin_spec (k : Int) ((m - i : Nat) : Int); omega
      have HQ := Lib.hid hq
      clear hq
      refine region_seg [true, true, true, true, true, true, true] 0 (by kernel_rfl) (by kernel_rfl) (by kernel_rfl) rfl (fun _ _ d _ _ h => by cases d <;> exact h) ?_
      repeat (first | with_reducible refine wpMask_pass ?_ | (refine wpMask_want (by rfl) (fun K hK => ?_); go_big_quiet_op; refine hK _ ?_; clear hK K))
      with_reducible refine wpMask_nil ?_
      refine region_end (by kernel_rfl) ?_
      clear s1 s2 hmin
      obtain ⟨fn, tmps, assign, body, hy, hR⟩ := hY pre ⟨i, q, by have := HQ.out; omega, by have := HQ.out; omega, by have := HQ.out; omega⟩ wr.drew (hJd _ _ hJ.out) (by
        have h1 := congrArg List.length hpre.out
        have h2 := cutsFrom_length (m := m) hk m 0 (by omega)
        rw [List.length_append, cutsFrom_more hk hlt, List.length_cons] at h1
        omega)
      dsimp only [Cut.val] at hy
      have hcs3 : wr.drew.cell? ⟨bs, 0, none⟩ = some (.slice A m d) := hcs2
      have hiq3 : (i : Int) + (q : Int) ≤ (d : Int) := by have := HQ.out; omega
      have hqb : q ≤ 65536 := by have := HQ.out; omega
      have HR := Lib.hid hR
      clear hR
      gi_wp2
      refine ⟨fun h => (by cases h), HR.out.mono ?_⟩
      rintro e W3 (⟨rfl, hJ3, hk3⟩ | ⟨rfl, hJx3⟩)
      · have hB3 : Keep2 bs bn wr W3 := hk3
        have hcn3 : W3.cell? ⟨bn, 0, none⟩ = some (.int .i64 k) := (hB3.cell2 0).trans hcn2
        have HJ3 := Lib.hid hJ3
        have HB3 := Lib.hid (hB.out.trans hB3)
        clear hJ3 hk3 hB3 hJ hB HR hy
        gi_wp2
        go_roundw
        case rel =>
          refine ⟨i + k, pre ++ [⟨i, q, by have := HQ.out; omega, by have := HQ.out; omega, by have := HQ.out; omega⟩], by go_num, by omega, Lib.hid ?_, HJ3, HB3⟩
          have h1 := hpre.out
          rw [cutsFrom_more hk hlt] at h1
          rw [List.append_assoc, ← h1]
          have hq := HQ.out
          subst hq
          rfl
        case measure => simp [intOf]; omega
      · gi_wp2
        refine bodyPost_ret (results_none rfl _ _ _) rfl ?_
        exact ⟨⟨_, rfl⟩, .inr ⟨_, trivial, hJx3⟩⟩
    · gi_wp2
      go_end0
      have h1 := hpre.out
      rw [cutsFrom_end hk hlt, List.append_nil] at h1
      exact ⟨⟨_, rfl⟩, .inl ⟨_, h1, hJ.out⟩⟩

set_option maxHeartbeats 1000000 in
/-- slices.Chunk itself: the payload and the length are boxed. -/
theorem chunk_c (w : World) (A : Option Addr) (m d : Nat) {k : Nat} (hk : 0 < k) :
    Calls Tryd.prog 28 #[.slice A m d, .int .i64 k] w fun e w' => e = .returned (.func (.func 33) #[] #[.pointer (some ⟨w.heap.size, 0, none⟩), .pointer (some ⟨w.heap.size + 1, 0, none⟩)]) ∧
      w' = (w.alloc (.cells #[.slice A m d] 26)).alloc (.cells #[.int .i64 k] 3) := by
  have h1 : ¬ (k : Int) < 1 := by omega
  go_enter Tryd.func28, Tryd.ntmps28
  go_wp2
  go_ret
  exact ⟨rfl, rfl⟩
/-- What it hands back keeps its word. -/
theorem chunk_stops (n : Nat) {w : World} {bs bn m d k : Nat} {A : Option Addr} (hk : 0 < k) (hk2 : k ≤ 65536) (hm : m ≤ 1048576) (hmd : m ≤ d) (hd : d ≤ 9223372036854775807) (hbs : bs < w.heap.size) (hbn : bn < w.heap.size)
    (hcs : w.cell? ⟨bs, 0, none⟩ = some (.slice A m d)) (hcn : w.cell? ⟨bn, 0, none⟩ = some (.int .i64 k)) :
    SeqStopsK Fence.wide n Tryd.prog 33 #[.pointer (some ⟨bs, 0, none⟩), .pointer (some ⟨bn, 0, none⟩)] (fun x : Cut m k => #[x.val A]) (Keep2 bs bn) (fun ys => ys = cutsFrom m k hk 0) (fun _ => True) m w := by
  intro l J Jx W hW hJ hJx hY h0
  exact chunk1_in n l bs bn m d k A hk hk2 hm hmd hd J Jx hY (fun pre W h => hJ pre W W.drew none h ⟨rfl, rfl, rfl, Nat.le_refl _, fun _ _ _ => rfl⟩ (fun r e => by cases e)) W ((hW.cell (p := ⟨bs, 0, none⟩) hbs).trans hcs) ((hW.cell (p := ⟨bn, 0, none⟩) hbn).trans hcn) h0
end Go.Proofs.YtfchkaoifbcgkaaDoor
