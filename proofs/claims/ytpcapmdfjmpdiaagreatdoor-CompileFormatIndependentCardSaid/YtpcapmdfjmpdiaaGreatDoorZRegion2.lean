/-
  Plain facts on blocks, worlds and lists of bytes: no program is imported here.
  Slices of structs that came in, opened to their cells.
  Values of the data tree as they lie in memory: a tree with its addresses, and what a reading of an argument gives.
  Values as plain data: names, checking, equality, looking up. No program is imported here.
  The parts of a path, as lists of bytes; what splitting into at most so many gives. No program is imported here.
  Slices of the call's own at any place of their block: what they hold, a cut, an append.
  Slices of the call's own whose elements have z cells each: what they hold, a cut, a store, an append. No program is imported here.
  Slices of structs of the call's own, element by element: l is what they hold, f gives an element's z cells. No program is imported here.
  A region that draws its order, walked in ONE order: what only reads is taken as soon as it may come up, and the calls, one behind the other, may only add to the world (or turn the blocks T).
  Within a region that draws its order: one of several operations that may come up; an append onto a slice of the call's own at any place of its block.
-/
import Derived.WalkKit
import Derived.WalkSpells
import Derived.WalkLawsBesides
import Derived.Laws.CopyOwn
import Derived.Laws.Rows
import Derived.Lib.Hide
import Derived.Maps.AppendAt
import Derived.Laws.BitsAllLaws
import Derived.OwnWalk
import Derived.Deep.Draws
import Derived.Lib.SlBytesConst
import Derived.Laws.IdiomStrings
import Derived.Laws.BytesString
import Derived.ProofKit
import Derived.OpenShut
import Derived.ShutString
import Derived.ChangeOld
import Derived.Deep.Slices
import Derived.Deep.Fields
import Derived.ChangeSame
import Derived.Lib.SmallJoins
import Derived.Lib.Split
import Derived.Lib.IndexLaws
import Derived.Lib.IndexBytes
import Derived.ArgAppend
import Derived.OrdersHeld
import Derived.RegionTactic
import Derived.Deep.Quiet
import Derived.BigQuiet
namespace Go.Proofs.YtpcapmdfjmpdiaaGreatDoor
open Go.RowKit

/-! ### Blocks known whole -/
/-- Block g is just the cells cs, of element type t, none of them frozen. -/
def Blk (w : World) (g : Nat) (t : TypeId) (cs : List Value) : Prop := w.heap[g]? = some (.cells cs.toArray t (0, 0))
section
variable {w w' : World} {g : Nat} {t : TypeId} {cs : List Value}
theorem Blk.lt (h : Blk w g t cs) : g < w.heap.size := by
  unfold Blk at h
  exact (Array.getElem?_eq_some_iff.1 h).1
theorem Blk.cell (h : Blk w g t cs) (i : Nat) : w.cell? ⟨g, i, none⟩ = cs[i]? := by
  unfold Blk at h
  simp [World.cell?, h]
theorem Blk.free (h : Blk w g t cs) (i : Nat) : w.frozen? ⟨g, i, none⟩ = false := by
  unfold Blk at h
  simp [World.frozen?, h]
theorem Blk.new (w : World) (t : TypeId) (cs : List Value) : Blk (w.alloc (.cells cs.toArray t)) w.heap.size t cs := heap_alloc_new w _
theorem Blk.alloc (h : Blk w g t cs) (o : Obj) : Blk (w.alloc o) g t cs := (Below.heap_alloc w o g h.lt).trans h
theorem Blk.drew (h : Blk w g t cs) : Blk w.drew g t cs := h
theorem Blk.drewN (h : Blk w g t cs) (n : Nat) : Blk (w.drewN n) g t cs := h
theorem Blk.set_ (h : Blk w g t cs) (i : Nat) (u : Value) : Blk (w.setCell ⟨g, i, none⟩ u) g t (cs.set i u) := by
  unfold Blk at h ⊢
  simp [World.setCell, Array.getElem?_modify, h]
theorem Blk.far (h : Blk w g t cs) {p : Addr} (hp : g ≠ p.block) (u : Value) : Blk (w.setCell p u) g t cs := (Below.heap_setCell w p u g hp).trans h
theorem Blk.ne_ {g' : Nat} {t' : TypeId} {cs' : List Value} (h : Blk w g t cs) (h' : Blk w g' t' cs') (hne : t ≠ t') : g ≠ g' := by
  rintro rfl
  unfold Blk at h h'
  rw [h] at h'
  injection h' with h'
  injection h' with _ ht
  exact hne ht
end

/-! ### What a call may have turned -/
/-- Of the blocks that were there, at most those of S have turned; streams and tape are as they were. -/
structure Only (S : List Nat) (w w' : World) : Prop where
  os : w'.os = w.os
  tape : w'.tape = w.tape
  output : w'.output = w.output
  size : w.heap.size ≤ w'.heap.size
  block : ∀ k, k < w.heap.size → k ∉ S → w'.heap[k]? = w.heap[k]?
theorem Only.refl (S : List Nat) (w : World) : Only S w w := ⟨rfl, rfl, rfl, Nat.le_refl _, fun _ _ _ => rfl⟩
theorem Only.trans {S : List Nat} {a b c : World} (h : Only S a b) (k : Only S b c) : Only S a c :=
  ⟨k.os.trans h.os, k.tape.trans h.tape, k.output.trans h.output, Nat.le_trans h.size k.size,
   fun i hi hn => (k.block i (Nat.lt_of_lt_of_le hi h.size) hn).trans (h.block i hi hn)⟩
theorem Only.more {S T : List Nat} {w w' : World} (h : Only S w w') (hST : ∀ k, k ∈ S → k ∈ T) : Only T w w' :=
  ⟨h.os, h.tape, h.output, h.size, fun k hk hn => h.block k hk (fun hs => hn (hST k hs))⟩
/-- Blocks that were not yet there at the start need not be named. -/
theorem Only.join {S T : List Nat} {a b c : World} (h : Only S a b) (k : Only T b c) (hT : ∀ i, i ∈ T → i ∈ S ∨ a.heap.size ≤ i) : Only S a c :=
  ⟨k.os.trans h.os, k.tape.trans h.tape, k.output.trans h.output, Nat.le_trans h.size k.size,
   fun i hi hn => (k.block i (Nat.lt_of_lt_of_le hi h.size) (fun ht => by rcases hT i ht with h1 | h1; exact hn h1; omega)).trans (h.block i hi hn)⟩
theorem Only.drew {S : List Nat} {a w : World} (h : Only S a w) : Only S a w.drew := ⟨h.os, h.tape, h.output, h.size, h.block⟩
theorem Only.drewN {S : List Nat} {a w : World} (h : Only S a w) (n : Nat) : Only S a (w.drewN n) := ⟨h.os, h.tape, h.output, h.size, h.block⟩
theorem Only.alloc {S : List Nat} {a w : World} (h : Only S a w) (o : Obj) : Only S a (w.alloc o) :=
  h.trans ⟨rfl, rfl, rfl, by simp, fun k hk _ => Below.heap_alloc _ _ _ hk⟩
theorem Only.setCell {S : List Nat} {a w : World} (h : Only S a w) {p : Addr} (hp : p.block ∈ S ∨ a.heap.size ≤ p.block) (u : Value) : Only S a (w.setCell p u) :=
  ⟨h.os, h.tape, h.output, by simpa [World.setCell] using h.size,
   fun k hk hn => (Below.heap_setCell _ _ _ _ (by rintro rfl; rcases hp with hp | hp; exact hn hp; omega)).trans (h.block k hk hn)⟩
theorem Only.grown {S : List Nat} {a w w' : World} {row : Option Nat} (h : Only S a w) (hg : w.grownBy w' row) (hr : ∀ k, row = some k → k ∈ S ∨ a.heap.size ≤ k) : Only S a w' :=
  ⟨hg.os.trans h.os, hg.tape.trans h.tape, hg.output.trans h.output, Nat.le_trans h.size hg.size,
   fun k hk hn => (hg.block k (Nat.lt_of_lt_of_le hk h.size) (fun e => by rcases hr k e.symm with h1 | h1; exact hn h1; omega)).trans (h.block k hk hn)⟩
theorem Only.of_below {S : List Nat} {B : Nat} {a w : World} (h : Below B a w) (hB : ∀ k, k < a.heap.size → k ∉ S → k < B) : Only S a w :=
  ⟨h.os, h.tape, h.output, h.size, fun k hk hn => h.block k (hB k hk hn)⟩
theorem Only.below {S : List Nat} {B : Nat} {a w w' : World} (hb : Below B a w) (h : Only S w w') (hB : B ≤ w.heap.size) (hS : ∀ k, k ∈ S → B ≤ k) : Below B a w' :=
  hb.trans ⟨h.os, h.tape, h.output, h.size, fun k hk => h.block k (Nat.lt_of_lt_of_le hk hB) (fun hs => by have := hS k hs; omega)⟩
theorem Only.to_below {B : Nat} {w w' : World} {S : List Nat} (h : Only S w w') (hB : B ≤ w.heap.size) (hS : ∀ k, k ∈ S → B ≤ k) : Below B w w' :=
  Only.below (Below.refl _ _) h hB hS
theorem Blk.only {w w' : World} {g : Nat} {t : TypeId} {cs : List Value} {S : List Nat} (h : Blk w g t cs) (k : Only S w w') (hg : g ∉ S) : Blk w' g t cs := (k.block g h.lt hg).trans h
theorem Blk.below {w w' : World} {g : Nat} {t : TypeId} {cs : List Value} {B : Nat} (h : Blk w g t cs) (k : Below B w w') (hg : g < B) : Blk w' g t cs := (k.block g hg).trans h
theorem Blk.grown {w w' : World} {g : Nat} {t : TypeId} {cs : List Value} {row : Option Nat} (h : Blk w g t cs) (k : w.grownBy w' row) (hg : some g ≠ row) : Blk w' g t cs := (k.block g h.lt hg).trans h
/-! ### Bytes -/
/-- A byte as a value; a list of bytes as cells. -/
def vb (c : UInt8) : Value := .int .u8 c.toNat
def vbs (l : List UInt8) : List Value := l.map vb
theorem vbs_length (l : List UInt8) : (vbs l).length = l.length := by simp [vbs]
theorem vbs_getElem? (l : List UInt8) (i : Nat) : (vbs l)[i]? = (l[i]?).map vb := by simp [vbs]
theorem block_add (a : Addr) (n : Nat) : (a.add n).block = a.block := by unfold Addr.add; split <;> rfl
theorem add_add (a : Addr) (i j : Nat) : (a.add i).add j = a.add (i + j) := by
  unfold Addr.add
  by_cases hi : i = 0 <;> by_cases hj : j = 0 <;> simp [hi, hj, Nat.add_assoc]
theorem add_at (b o i : Nat) : (⟨b, o, none⟩ : Addr).add i = ⟨b, o + i, none⟩ := by
  unfold Addr.add
  by_cases hi : i = 0 <;> simp [hi]
/-- The slice '.slice A n _' reads as the cells xs, all of them below block number B. -/
def Reads (w : World) (B : Nat) (A : Option Addr) (n : Nat) (xs : List Value) : Prop :=
  xs.length = n ∧ (0 < n → ∃ ad, A = some ad ∧ ad.block < B ∧ ∀ j u, xs[j]? = some u → w.cell? (ad.add j) = some u)
section
variable {w w' : World} {B B' n : Nat} {A : Option Addr} {xs : List Value}
theorem Reads.keep (h : Reads w B A n xs) (hk : ∀ ad, A = some ad → ad.block < B → w'.heap[ad.block]? = w.heap[ad.block]?) : Reads w' B A n xs :=
  ⟨h.1, fun hn => by
    obtain ⟨ad, e, hb, hc⟩ := h.2 hn
    exact ⟨ad, e, hb, fun j u hu => (World.cell?_of_block (by rw [block_add]; exact hk ad e hb)).trans (hc j u hu)⟩⟩
theorem Reads.below (h : Reads w B A n xs) (hb : Below B w w') : Reads w' B A n xs := h.keep fun _ _ hp => hb.block _ hp
theorem Reads.only {S : List Nat} (h : Reads w B A n xs) (ho : Only S w w') (hB : B ≤ w.heap.size) (hS : ∀ k, k ∈ S → B ≤ k) : Reads w' B A n xs :=
  h.keep fun _ _ hp => ho.block _ (by omega) (fun hs => by have := hS _ hs; omega)
theorem Reads.more (h : Reads w B A n xs) (hB : B ≤ B') : Reads w B' A n xs :=
  ⟨h.1, fun hn => by
    obtain ⟨ad, e, hb, hc⟩ := h.2 hn
    exact ⟨ad, e, by omega, hc⟩⟩
theorem Reads.none_ : Reads w B A 0 [] := ⟨rfl, fun h => absurd h (by omega)⟩
theorem Reads.of_blk {g : Nat} {t : TypeId} {cs : List Value} (h : Blk w g t cs) (o m : Nat) (hm : o + m ≤ cs.length) (hB : g < B) :
    Reads w B (some ⟨g, o, none⟩) m ((cs.drop o).take m) := by
  refine ⟨by simp; omega, fun _ => ⟨_, rfl, hB, fun j u hu => ?_⟩⟩
  rw [add_at, h.cell]
  rw [List.getElem?_take] at hu
  split at hu
  · simpa using hu
  · cases hu
/-- A cut 's[k:m]': at its end the model keeps the old address. -/
theorem Reads.cut (h : Reads w B A n xs) {k m : Nat} (hk : k ≤ m) (hm : m ≤ n) {c : Prop} [Decidable c] (hc : c → k = m) :
    Reads w B (if c then A else A.map (·.add k)) (m - k) ((xs.drop k).take (m - k)) := by
  refine ⟨by simp; have := h.1; omega, fun hn => ?_⟩
  obtain ⟨ad, rfl, hb, hcell⟩ := h.2 (by omega)
  rw [if_neg (fun hh => by have := hc hh; omega)]
  refine ⟨ad.add k, rfl, by rw [block_add]; exact hb, fun j u hu => ?_⟩
  rw [add_add]
  refine hcell _ u ?_
  rw [List.getElem?_take] at hu
  split at hu
  · simpa using hu
  · cases hu
end

/-- The address of a slice that is not empty, written out. -/
theorem Reads.plain {w : World} {B n : Nat} {A : Option Addr} {xs : List Value} (h : Reads w B A n xs) (hn : 0 < n) :
    ∃ g o, A = some ⟨g, o, none⟩ ∧ g < B ∧ ∀ j u, xs[j]? = some u → w.cell? ⟨g, o + j, none⟩ = some u := by
  obtain ⟨⟨g, o, spot⟩, e, hb, hc⟩ := h.2 hn
  have h0 := hc 0 _ (List.getElem?_eq_getElem (show 0 < xs.length by rw [h.1]; exact hn))
  have hs : spot = none := by
    have := World.cell?_spot h0
    simpa [Addr.add] using this
  subst hs
  exact ⟨g, o, e, hb, fun j u hu => by rw [← add_at]; exact hc j u hu⟩
/-! ### Bytes and strings -/
/-- 'string(b)'. -/
theorem run_string_of {P : Program} {w : World} {src dst e : TypeId} (hs : P.underlying src = some (.slice e)) (he : P.underlying e = some (.int .u8)) (hd : P.underlying dst = some .string)
    {B n : Nat} {A : Option Addr} {l : List UInt8} (h : Reads w B A n (vbs l)) (c : Nat) :
    (convert src dst (.slice A n c)).run P w = .ok (.string ⟨l.toArray⟩) w := by
  have hl : l.length = n := by have := h.1; rwa [vbs_length] at this
  subst hl
  rcases A with _ | ad
  · have h0 : l.length = 0 := by
      rcases Nat.eq_zero_or_pos l.length with h0 | h0
      · exact h0
      · obtain ⟨_, e1, _⟩ := h.2 h0
        cases e1
    have : l = [] := List.eq_nil_of_length_eq_zero h0
    subst this
    rw [run_convert_bytes_string w src dst e none _ c hs he hd]
    rfl
  · refine run_convert_bytes_back w src dst e ad c l hs he hd (fun j hj => ?_)
    obtain ⟨ad', e1, _, hc⟩ := h.2 (by omega)
    injection e1 with e1
    subst e1
    exact hc j _ (by rw [vbs_getElem?, List.getElem?_eq_getElem hj]; rfl)
/-- A row that was just laid, marked or not. -/
theorem Reads.fresh (w : World) (l : List UInt8) (C : Array Value) (hC : C = (vbs l).toArray) (t : TypeId) (fr : Nat × Nat) (B : Nat) (hB : w.heap.size < B) :
    Reads (w.alloc (.cells C t fr)) B (some ⟨w.heap.size, 0, none⟩) l.length (vbs l) := by
  subst hC
  refine ⟨vbs_length l, fun _ => ⟨_, rfl, hB, fun j u hu => ?_⟩⟩
  rw [add_at, World.cell?_alloc_mark]
  simpa using hu
/-! ### min and max of two, without a split -/
def imin (x y : Int) : Int := if y < x then y else x
def imax (x y : Int) : Int := if x < y then y else x
theorem run_min2 {P : Program} (w : World) (ts : Array TypeId) (t : TypeId) (k k' : IntKind) (x y : Int) : (Builtin.min_ ts t #[.int k x, .int k' y]).run P w = .ok (.int k (imin x y)) w :=
  run_min_int2 w ts t k k' x y
theorem run_max2 {P : Program} (w : World) (ts : Array TypeId) (t : TypeId) (k k' : IntKind) (x y : Int) : (Builtin.max_ ts t #[.int k x, .int k' y]).run P w = .ok (.int k (imax x y)) w :=
  run_max_int2 w ts t k k' x y
/-! ### A cut of a slice, without a split on its end -/
/-- The address of 's[l:]' of a slice of capacity m, elements of s cells: at its end the model keeps the old address. -/
def cutA (m l s : Nat) (a : Option Addr) : Option Addr := if m = l then a else a.map (·.add (l * s))
theorem sliced_cut (a : Option Addr) (l h m s : Nat) : sliced a l h m s = .slice (cutA m l s a) (h - l) (m - l) := rfl
theorem cutA_zero (m s : Nat) (a : Option Addr) : cutA m 0 s a = a := by
  unfold cutA
  split
  · rfl
  · cases a
    · rfl
    · simp [Addr.add]
theorem cutA_some {m l : Nat} (b o : Nat) (h : m ≠ l) : cutA m l 1 (some ⟨b, o, none⟩) = some ⟨b, o + l, none⟩ := by
  unfold cutA
  rw [if_neg h]
  simp [add_at]
/-! ### The builtin copy, with a frame that names the one block -/
section
variable {P : Program} {w : World} {ops : Array Oper} {rest : List Oper} {o : Oper} {a : Act} {Q : Exit → Act → World → Prop}
end

/-! ### append onto a row of the call's own, whatever the source -/
section
variable {P : Program} {w : World}
variable {ops : Array Oper} {rest : List Oper} {o : Oper} {a : Act} {Q : Exit → Act → World → Prop}
end
/-- What is owned reads as what it is. -/
theorem Reads.of_own {w : World} {base : Nat} {e : TypeId} {v : Value} {n : Nat} {xs : List Value} (h : w.ownsRow base e 1 v n xs) : ∃ A c, v = .slice A n c ∧ n ≤ c ∧ c ≤ maxLen ∧ Reads w w.heap.size A n xs ∧
    (∀ g, A = some g → g = ⟨g.block, 0, none⟩ ∧ base ≤ g.block ∧ v.ownBlock = some g.block ∧ ∃ cur : List Value, Blk w g.block e cur ∧ cur.length = c ∧ cur.take n = xs) ∧ (A = none → n = 0) := by
  obtain ⟨hl, h2⟩ := h
  rw [Nat.mul_one] at hl
  rcases h2 with ⟨rfl, rfl⟩ | ⟨g, cap, cur, rfl, hb, hg, hnc, hcm, hcs, htk⟩
  · have : xs = [] := List.eq_nil_of_length_eq_zero hl
    subst this
    exact ⟨none, 0, rfl, Nat.le_refl _, Nat.zero_le _, Reads.none_, (fun g hg => by cases hg), (fun _ => rfl)⟩
  · rw [Nat.mul_one] at htk hcs
    have hblk : Blk w g e cur.toList := by simpa [Blk] using hg
    refine ⟨some ⟨g, 0, none⟩, cap, rfl, hnc, hcm, ⟨hl, fun _ => ⟨_, rfl, hblk.lt, fun j u hu => ?_⟩⟩, fun g' hg' => ?_, fun h => by cases h⟩
    · rw [add_at, hblk.cell, Nat.zero_add]
      rw [← htk, List.getElem?_take] at hu
      split at hu
      · exact hu
      · cases hu
    · injection hg' with hg'
      subst hg'
      exact ⟨rfl, hb, rfl, cur.toList, hblk, by simpa using hcs, htk⟩
/-! ### Splices -/
theorem splice_getElem? {α : Type} (L : List α) (o : Nat) (c : List α) (h : o + c.length ≤ L.length) (j : Nat) :
    (splice L o c)[j]? = if o ≤ j ∧ j < o + c.length then c[j - o]? else L[j]? := by
  unfold splice
  rw [List.getElem?_append, List.length_take, Nat.min_eq_left (by omega)]
  by_cases h1 : j < o
  · rw [if_pos h1, if_neg (by omega), List.getElem?_take, if_pos h1]
  · rw [if_neg h1, List.getElem?_append]
    by_cases h2 : j - o < c.length
    · rw [if_pos h2, if_pos (by omega)]
    · rw [if_neg h2, if_neg (by omega), List.getElem?_drop]
      congr 1; omega
end Go.Proofs.YtpcapmdfjmpdiaaGreatDoor

namespace Go.Proofs.YtpcapmdfjmpdiaaGreatDoor
open Go.ChangeShapes Go.WideShapes Go.Deep Go.RowKit

section
variable {H : Type} {enc : TypeId × Value → H} {P : Program} {w : World} {base : Nat} {spare : Nat → Bool} {held : Bool}
end

/-- The address of a cell that is there is written out. -/
theorem plain_of_cell {w : World} {a : Addr} {v : Value} (h : w.cell? (a.add 0) = some v) : a = ⟨a.block, a.off, none⟩ ∧ a.block < w.heap.size := by
  have e0 : a.add 0 = a := by simp [Addr.add]
  rw [e0] at h
  have hs := World.cell?_spot h
  refine ⟨by cases a; simp_all, ?_⟩
  have : (w.cell? a).isSome := by rw [h]; rfl
  simp only [World.cell?] at this
  split at this
  · rename_i hh; exact (Array.getElem?_eq_some_iff.1 hh).1
  · simp at this
/-! ### A slice of calls: kind, bytes, number -/
structure ActV where
  k : Int
  A : Option Addr
  m : Nat
  c : Nat
  b : List UInt8
  n : Int
/-- '.slice X len _' leads to the calls 'acts', each in three cells: a number, a slice of bytes, a number. -/
def ActsAt (w : World) (B : Nat) (X : Option Addr) (len : Nat) (acts : List ActV) : Prop :=
  acts.length = len ∧
  (0 < len → ∃ g o, X = some ⟨g, o, none⟩ ∧ g < B ∧ ∀ i a, acts[i]? = some a →
    w.cell? ⟨g, o + i * 3, none⟩ = some (.int .i64 a.k) ∧ w.cell? ⟨g, o + i * 3 + 1, none⟩ = some (.slice a.A a.m a.c) ∧ w.cell? ⟨g, o + i * 3 + 2, none⟩ = some (.int .i64 a.n)) ∧
  ∀ a, a ∈ acts → a.b.length = a.m ∧ a.m ≤ a.c ∧ a.c ≤ maxLen ∧ Reads w B a.A a.m (vbs a.b) ∧ -9223372036854775808 ≤ a.n ∧ a.n ≤ 9223372036854775807
theorem ActsAt.below {w w' : World} {B : Nat} {X : Option Addr} {len : Nat} {acts : List ActV} (h : ActsAt w B X len acts) (hb : Below B w w') : ActsAt w' B X len acts := by
  obtain ⟨h1, h2, h3⟩ := h
  refine ⟨h1, fun hl => ?_, fun a ha => ?_⟩
  · obtain ⟨g, o, e, hg, hc⟩ := h2 hl
    refine ⟨g, o, e, hg, fun i a hi => ?_⟩
    obtain ⟨c1, c2, c3⟩ := hc i a hi
    exact ⟨(hb.cell (p := ⟨g, _, none⟩) hg).trans c1, (hb.cell (p := ⟨g, _, none⟩) hg).trans c2, (hb.cell (p := ⟨g, _, none⟩) hg).trans c3⟩
  · obtain ⟨a1, a2, a3, a4, a5⟩ := h3 a ha
    exact ⟨a1, a2, a3, a4.below hb, a5⟩
end Go.Proofs.YtpcapmdfjmpdiaaGreatDoor

namespace Go.Proofs.YtpcapmdfjmpdiaaGreatDoor
open Go.Joins Go.ChangeShapes Go.WideShapes Go.Deep Go.RowKit

/-- A value: kind, string, number, bool, where its items lie (address, capacity) and what they are, where its fields lie, their keys and their values. -/
inductive VT where
  | mk (k : Int) (s : ByteArray) (n : Int) (b : Bool) (A : Option Addr) (c : Nat) (xs : List VT) (F : Option Addr) (d : Nat) (ks : List ByteArray) (vs : List VT) : VT
namespace VT
def k : VT → Int | mk k _ _ _ _ _ _ _ _ _ _ => k
def s : VT → ByteArray | mk _ s _ _ _ _ _ _ _ _ _ => s
def n : VT → Int | mk _ _ n _ _ _ _ _ _ _ _ => n
def b : VT → Bool | mk _ _ _ b _ _ _ _ _ _ _ => b
def A : VT → Option Addr | mk _ _ _ _ A _ _ _ _ _ _ => A
def c : VT → Nat | mk _ _ _ _ _ c _ _ _ _ _ => c
def xs : VT → List VT | mk _ _ _ _ _ _ xs _ _ _ _ => xs
def F : VT → Option Addr | mk _ _ _ _ _ _ _ F _ _ _ => F
def d : VT → Nat | mk _ _ _ _ _ _ _ _ d _ _ => d
def ks : VT → List ByteArray | mk _ _ _ _ _ _ _ _ _ ks _ => ks
def vs : VT → List VT | mk _ _ _ _ _ _ _ _ _ _ vs => vs
/-- The six cells. -/
def c4 (t : VT) : Value := .slice t.A t.xs.length t.c
def c5 (t : VT) : Value := .slice t.F t.vs.length t.d
/-- The value itself. -/
def val (t : VT) : Value := .agg #[.int .i64 t.k, .string t.s, .int .i64 t.n, .bool t.b, t.c4, t.c5]
theorem size_xs {t x : VT} (h : x ∈ t.xs) : SizeOf.sizeOf x < SizeOf.sizeOf t := by
  cases t
  have := List.sizeOf_lt_of_mem h
  simp only [xs] at this
  simp only [VT.mk.sizeOf_spec]
  omega
theorem size_vs {t x : VT} (h : x ∈ t.vs) : SizeOf.sizeOf x < SizeOf.sizeOf t := by
  cases t
  have := List.sizeOf_lt_of_mem h
  simp only [vs] at this
  simp only [VT.mk.sizeOf_spec]
  omega
/-- Induction over a tree. -/
theorem ind {M : VT → Prop} (h : ∀ t, (∀ x, x ∈ t.xs → M x) → (∀ x, x ∈ t.vs → M x) → M t) (t : VT) : M t := by
  have key : ∀ n (t : VT), SizeOf.sizeOf t < n → M t := by
    intro n
    induction n with
    | zero => intro t ht; omega
    | succ n ih => intro t ht; exact h t (fun x hx => ih x (by have := size_xs hx; omega)) (fun x hx => ih x (by have := size_vs hx; omega))
  exact key _ t (Nat.lt_succ_self _)
/-- The value's six cells lie at block g from cell o on. -/
def Cells (w : World) (g o : Nat) (t : VT) : Prop :=
  w.cell? ⟨g, o, none⟩ = some (.int .i64 t.k) ∧ w.cell? ⟨g, o + 1, none⟩ = some (.string t.s) ∧ w.cell? ⟨g, o + 2, none⟩ = some (.int .i64 t.n) ∧
  w.cell? ⟨g, o + 3, none⟩ = some (.bool t.b) ∧ w.cell? ⟨g, o + 4, none⟩ = some (.slice t.A t.xs.length t.c) ∧ w.cell? ⟨g, o + 5, none⟩ = some (.slice t.F t.vs.length t.d)
/-- All that the value leads to lies in blocks of which Q holds. -/
inductive In (w : World) (Q : Nat → Prop) : VT → Prop
  | mk (t : VT) (hk : -9223372036854775808 ≤ t.k ∧ t.k ≤ 9223372036854775807) (hn : -9223372036854775808 ≤ t.n ∧ t.n ≤ 9223372036854775807) (hs : t.s.size ≤ reachBytes)
    (hc : t.xs.length ≤ t.c ∧ t.c ≤ maxLen ∧ t.xs.length * 88 ≤ reachBytes) (hd : t.vs.length ≤ t.d ∧ t.d ≤ maxLen ∧ t.vs.length * 104 ≤ reachBytes) (hkl : t.ks.length = t.vs.length)
    (hA : 0 < t.xs.length → ∃ g o, t.A = some ⟨g, o, none⟩ ∧ Q g ∧ ∀ i (x : VT), t.xs[i]? = some x → x.Cells w g (o + i * 6))
    (hF : 0 < t.vs.length → ∃ g o, t.F = some ⟨g, o, none⟩ ∧ Q g ∧ ∀ i (x : VT) key, t.ks[i]? = some key → t.vs[i]? = some x → w.cell? ⟨g, o + i * 7, none⟩ = some (.string key) ∧ x.Cells w g (o + i * 7 + 1))
    (hx : ∀ x, x ∈ t.xs → In w Q x) (hv : ∀ x, x ∈ t.vs → In w Q x) (hks : ∀ key, key ∈ t.ks → key.size ≤ reachBytes) : In w Q t
theorem Cells.same {w w' : World} {g o : Nat} {t : VT} (h : t.Cells w g o) (e : ∀ p, w'.cell? ⟨g, p, none⟩ = w.cell? ⟨g, p, none⟩) : t.Cells w' g o := by
  obtain ⟨h0, h1, h2, h3, h4, h5⟩ := h
  exact ⟨(e _).trans h0, (e _).trans h1, (e _).trans h2, (e _).trans h3, (e _).trans h4, (e _).trans h5⟩
theorem In.same {w w' : World} {Q Q' : Nat → Prop} {t : VT} (h : t.In w Q) (hq : ∀ g, Q g → Q' g) (e : ∀ g p, Q g → w'.cell? ⟨g, p, none⟩ = w.cell? ⟨g, p, none⟩) : t.In w' Q' := by
  induction h with
  | mk t hk hn hs hc hd hkl hA hF _ _ hks ihx ihv =>
    refine .mk t hk hn hs hc hd hkl (fun hl => ?_) (fun hl => ?_) ihx ihv hks
    · obtain ⟨g, o, e1, hg, hi⟩ := hA hl
      exact ⟨g, o, e1, hq g hg, fun i x hx => (hi i x hx).same fun p => e g p hg⟩
    · obtain ⟨g, o, e1, hg, hi⟩ := hF hl
      refine ⟨g, o, e1, hq g hg, fun i x key hx hy => ?_⟩
      obtain ⟨h1, h2⟩ := hi i x key hx hy
      exact ⟨(e _ _ hg).trans h1, h2.same fun p => e g p hg⟩
theorem In.old {w w' : World} {B : Nat} {t : VT} (h : t.In w (· < B)) (hb : Below B w w') : t.In w' (· < B) :=
  h.same (fun _ h => h) fun g p hg => hb.cell (p := ⟨g, p, none⟩) hg
variable {H : Type} {enc : TypeId × Value → H} {P : Program} {w : World}

theorem weightsAll_in {e : TypeId} : ∀ {ds : List (DataW H)} {d : DataW H} {n : Nat}, d ∈ ds → n ∈ d.weights P e → n ∈ DataW.weightsAll P e ds
  | d0 :: ds, d, n, hd, hn => by
    simp only [DataW.weightsAll, List.mem_append]
    rcases List.mem_cons.1 hd with rfl | h
    · exact .inl hn
    · exact .inr (weightsAll_in h hn)
end VT
end Go.Proofs.YtpcapmdfjmpdiaaGreatDoor

namespace Go.Proofs.YtpcapmdfjmpdiaaGreatDoor

/-- The first number other than 0 among g 0, .., g (n - 1), or 0. -/
def first (g : Nat → Int) : Nat → Int
  | 0 => 0
  | n + 1 => if first g n ≠ 0 then first g n else g n
/-! ### Names -/
def letterB (c : UInt8) : Bool := (decide (65 ≤ c.toNat) && decide (c.toNat ≤ 90)) || (decide (97 ≤ c.toNat) && decide (c.toNat ≤ 122))
def digitB (c : UInt8) : Bool := decide (48 ≤ c.toNat) && decide (c.toNat ≤ 57)
def wordB (c : UInt8) : Bool := letterB c || digitB c || c.toNat == 95
def nameL (l : List UInt8) : Bool :=
  match l with
  | [] => false
  | c :: _ => decide (l.length ≤ 32) && letterB c && l.all wordB
def nameB (s : ByteArray) : Bool := nameL s.data.toList
theorem nameL_cons {c : UInt8} {l : List UInt8} : nameL (c :: l) = (decide ((c :: l).length ≤ 32) && letterB c && (c :: l).all wordB) := rfl
theorem all_take_succ {l : List UInt8} {p : UInt8 → Bool} {k : Nat} {c : UInt8} (h : (l.take k).all p = true) (hk : l[k]? = some c) (hp : p c = true) : (l.take (k + 1)).all p = true := by
  rw [List.take_add_one, List.all_append, h, hk]
  simp [hp]
theorem not_all_of {l : List UInt8} {p : UInt8 → Bool} {k : Nat} {c : UInt8} (hk : l[k]? = some c) (hp : p c = false) : l.all p = false := by
  obtain ⟨h1, h2⟩ := List.getElem?_eq_some_iff.1 hk
  rw [Bool.eq_false_iff]
  intro h
  have := List.all_eq_true.1 h c (h2 ▸ List.getElem_mem h1)
  rw [hp] at this
  cases this
/-! ### Trees -/
namespace VT
def value (t : VT) (i : Nat) : VT := t.vs.getD i t
def key (t : VT) (i : Nat) : ByteArray := t.ks.getD i ByteArray.empty
end VT
end Go.Proofs.YtpcapmdfjmpdiaaGreatDoor

namespace Go.Proofs.YtpcapmdfjmpdiaaGreatDoor

/-- The parts of a list of bytes between the periods. -/
def parts : List UInt8 → List (List UInt8)
  | [] => [[]]
  | c :: l => if c = 46 then [] :: parts l else match parts l with
    | p :: ps => (c :: p) :: ps
    | [] => [[c]]
theorem parts_ne : ∀ l, parts l ≠ [] := by
  intro l
  cases l with
  | nil => simp [parts]
  | cons c l => unfold parts; split; · simp
                split <;> simp
theorem parts_cons {c : UInt8} {l : List UInt8} (h : c ≠ 46) : ∃ p ps, parts l = p :: ps ∧ parts (c :: l) = (c :: p) :: ps := by
  cases hp : parts l with
  | nil => exact absurd hp (parts_ne l)
  | cons p ps => exact ⟨p, ps, rfl, by rw [parts, if_neg h, hp]⟩
theorem parts_plain : ∀ {a : List UInt8}, (∀ c ∈ a, c ≠ 46) → parts a = [a] := by
  intro a
  induction a with
  | nil => intro _; rfl
  | cons c a ih =>
    intro h
    obtain ⟨p, ps, h1, h2⟩ := parts_cons (l := a) (h c (by simp))
    rw [ih fun d hd => h d (by simp [hd])] at h1
    injection h1 with h3 h4
    subst h3 h4
    exact h2
theorem parts_dot : ∀ {a b : List UInt8}, (∀ c ∈ a, c ≠ 46) → parts (a ++ 46 :: b) = a :: parts b := by
  intro a
  induction a with
  | nil => intro b _; simp [parts]
  | cons c a ih =>
    intro b h
    obtain ⟨p, ps, h1, h2⟩ := parts_cons (l := a ++ 46 :: b) (h c (by simp))
    rw [ih fun d hd => h d (by simp [hd])] at h1
    injection h1 with h3 h4
    subst h3 h4
    exact h2
theorem parts_len : ∀ l : List UInt8, (parts l).length ≤ l.length + 1 := by
  intro l
  induction l with
  | nil => simp [parts]
  | cons c l ih =>
    by_cases h : c = 46
    · subst h; simp [parts]; omega
    · obtain ⟨p, ps, h1, h2⟩ := parts_cons (l := l) h
      rw [h2]
      rw [h1] at ih
      simp at ih ⊢
      omega
def toL (s : ByteArray) : List UInt8 := s.data.toList
def ofL (l : List UInt8) : ByteArray := ⟨l.toArray⟩
theorem toL_ofL (l : List UInt8) : toL (ofL l) = l := rfl
theorem ofL_toL (s : ByteArray) : ofL (toL s) = s := by cases s; rfl
theorem toL_len (s : ByteArray) : (toL s).length = s.size := rfl
theorem toL_inj {s t : ByteArray} (h : toL s = toL t) : s = t := by rw [← ofL_toL s, ← ofL_toL t, h]
theorem toL_extract (s : ByteArray) (a b : Nat) : toL (s.extract a b) = ((toL s).take b).drop a := by
  unfold toL
  rw [ByteArray.data_extract, Array.toList_extract, List.extract_eq_take_drop]
  rw [List.take_drop]
  by_cases h : a ≤ b
  · rw [show a + (b - a) = b by omega]
  · rw [List.drop_eq_nil_of_le (by simp; omega), List.drop_eq_nil_of_le (by simp; omega)]
def dot : ByteArray := ⟨#[46]⟩
theorem index_dot {s : ByteArray} : (Lib.indexB s dot = -1 ∧ ∀ c ∈ toL s, c ≠ 46) ∨
    ∃ i : Nat, Lib.indexB s dot = i ∧ i < s.size ∧ (∀ c ∈ (toL s).take i, c ≠ 46) ∧ toL s = (toL s).take i ++ 46 :: (toL s).drop (i + 1) := by
  have e : Lib.indexB s dot = Lib.indexByte (toL s) 46 := Lib.index_one _ _
  rw [e]
  by_cases h : Lib.indexByte (toL s) 46 = -1
  · refine .inl ⟨h, fun c hc hc46 => ?_⟩
    subst hc46
    obtain ⟨k, hk, hk'⟩ := List.getElem_of_mem hc
    exact Lib.indexByte_none h k (by rw [List.getElem?_eq_getElem hk, hk'])
  · have hge := Lib.indexByte_ge (toL s) 46
    obtain ⟨i, hi⟩ : ∃ i : Nat, Lib.indexByte (toL s) 46 = i := ⟨(Lib.indexByte (toL s) 46).toNat, by omega⟩
    obtain ⟨h1, h2⟩ := Lib.indexByte_some hi
    obtain ⟨h3, h4⟩ := List.getElem?_eq_some_iff.1 h1
    refine .inr ⟨i, hi, h3, fun c hc hc46 => ?_, ?_⟩
    · subst hc46
      obtain ⟨k, hk, hk'⟩ := List.getElem_of_mem hc
      rw [List.getElem_take] at hk'
      simp at hk
      exact h2 k (by omega) (by rw [List.getElem?_eq_getElem (by omega), hk'])
    · conv => lhs; rw [← List.take_append_drop i (toL s)]
      rw [List.drop_eq_getElem_cons h3, h4]
/-- What is split at most k times: all the parts where there are at most k + 1, and k + 1 of them where there are more. -/
theorem split_parts : ∀ (k : Nat) (s : ByteArray), ((parts (toL s)).length ≤ k + 1 → (Lib.splitB dot 0 k s).map toL = parts (toL s)) ∧
    (Lib.splitB dot 0 k s).length = min (k + 1) (parts (toL s)).length := by
  intro k
  induction k with
  | zero =>
    intro s
    rw [Lib.splitB_zero]
    have h1 := parts_ne (toL s)
    refine ⟨fun h => ?_, ?_⟩
    · rcases index_dot (s := s) with ⟨_, h2⟩ | ⟨i, _, hi, h2, h3⟩
      · rw [parts_plain h2]; rfl
      · rw [h3, parts_dot h2] at h
        have h4 : 0 < (parts ((toL s).drop (i + 1))).length := List.length_pos_iff.2 (parts_ne _)
        simp only [List.length_cons] at h
        omega
    · have : 0 < (parts (toL s)).length := List.length_pos_iff.2 h1
      simp only [List.length_singleton]; omega
  | succ k ih =>
    intro s
    rcases index_dot (s := s) with ⟨h1, h2⟩ | ⟨i, h1, hi, h2, h3⟩
    · rw [Lib.splitB_miss _ _ _ _ h1, parts_plain h2]
      refine ⟨fun _ => rfl, ?_⟩
      simp only [List.length_singleton]; omega
    · rw [Lib.splitB_hit _ _ _ _ _ h1]
      have e1 : toL (s.extract 0 (i + 0)) = (toL s).take i := by rw [toL_extract]; simp
      have e2 : toL (s.extract (i + dot.size) s.size) = (toL s).drop (i + 1) := by
        rw [toL_extract, show dot.size = 1 from rfl, List.take_of_length_le (Nat.le_of_eq (toL_len s))]
      have e3 : parts (toL s) = (toL s).take i :: parts ((toL s).drop (i + 1)) := by
        conv => lhs; rw [h3]
        exact parts_dot h2
      obtain ⟨i1, i2⟩ := ih (s.extract (i + dot.size) s.size)
      rw [e2] at i1 i2
      rw [e3]
      refine ⟨fun h => ?_, ?_⟩
      · rw [List.map_cons, e1, i1 (by simpa using h)]
      · rw [List.length_cons, i2, List.length_cons]; omega
/-- A path's names, or none. -/
def pathOf (s : ByteArray) : Option (List ByteArray) :=
  if s.size = 0 then some [] else if (parts (toL s)).length ≤ 8 ∧ (parts (toL s)).all nameL = true then some ((parts (toL s)).map ofL) else none
end Go.Proofs.YtpcapmdfjmpdiaaGreatDoor

namespace Go.Proofs.YtpcapmdfjmpdiaaGreatDoor
open Go.RowKit

/-- The blocks to which an address leads. -/
def rowT (A : Option Addr) : List Nat := (A.map (·.block)).toList
theorem mem_rowT {A : Option Addr} {k : Nat} : k ∈ rowT A ↔ ∃ ad, A = some ad ∧ ad.block = k := by
  unfold rowT
  cases A <;> simp [eq_comm]
theorem rowT_none : rowT none = [] := rfl
theorem rowT_some (ad : Addr) : rowT (some ad) = [ad.block] := rfl
/-- '.slice A n c' holds the cells xs, in a block that is known whole, of elements of one cell each. -/
structure RowAt (w : World) (e : TypeId) (A : Option Addr) (n c : Nat) (xs : List Value) : Prop where
  len : xs.length = n
  le : n ≤ c
  max : c ≤ maxLen
  none_ : A = none → c = 0
  some_ : ∀ ad, A = some ad → ∃ g o cur, ad = ⟨g, o, none⟩ ∧ Blk w g e cur ∧ o + c ≤ cur.length ∧ (cur.drop o).take n = xs
section
variable {w w' : World} {e : TypeId} {A : Option Addr} {n c : Nat} {xs : List Value}
theorem RowAt.lt (h : RowAt w e A n c xs) : ∀ k, k ∈ rowT A → k < w.heap.size := by
  intro k hk
  obtain ⟨ad, rfl, rfl⟩ := mem_rowT.1 hk
  obtain ⟨g, o, cur, rfl, hb, _⟩ := h.some_ ad rfl
  exact hb.lt
theorem RowAt.nil (w : World) (e : TypeId) : RowAt w e none 0 0 [] := ⟨rfl, Nat.le_refl _, Nat.zero_le _, fun _ => rfl, fun _ h => by cases h⟩
theorem RowAt.keep (h : RowAt w e A n c xs) (hk : ∀ k, k ∈ rowT A → w'.heap[k]? = w.heap[k]?) : RowAt w' e A n c xs :=
  ⟨h.len, h.le, h.max, h.none_, fun ad ha => by
    obtain ⟨g, o, cur, rfl, hb, h1, h2⟩ := h.some_ ad ha
    exact ⟨g, o, cur, rfl, (hk g (mem_rowT.2 ⟨_, ha, rfl⟩)).trans hb, h1, h2⟩⟩
theorem RowAt.only {S : List Nat} (h : RowAt w e A n c xs) (ho : Only S w w') (hS : ∀ k, k ∈ rowT A → k ∉ S) : RowAt w' e A n c xs :=
  h.keep fun k hk => ho.block k (h.lt k hk) (hS k hk)
theorem RowAt.alloc (h : RowAt w e A n c xs) (o : Obj) : RowAt (w.alloc o) e A n c xs := h.keep fun k hk => Below.heap_alloc _ _ _ (h.lt k hk)
theorem RowAt.drewN (h : RowAt w e A n c xs) (k : Nat) : RowAt (w.drewN k) e A n c xs := h.keep fun _ _ => rfl
theorem RowAt.far (h : RowAt w e A n c xs) {p : Addr} (hp : p.block ∉ rowT A) (u : Value) : RowAt (w.setCell p u) e A n c xs :=
  h.keep fun k hk => Below.heap_setCell _ _ _ _ (by rintro rfl; exact hp hk)
theorem RowAt.ne {e' : TypeId} {A' : Option Addr} {n' c' : Nat} {xs' : List Value} (h : RowAt w e A n c xs) (h' : RowAt w e' A' n' c' xs') (hne : e ≠ e') : ∀ k, k ∈ rowT A → k ∉ rowT A' := by
  intro k hk hk'
  obtain ⟨ad, rfl, rfl⟩ := mem_rowT.1 hk
  obtain ⟨ad', rfl, he⟩ := mem_rowT.1 hk'
  obtain ⟨g, o, cur, rfl, hb, _⟩ := h.some_ ad rfl
  obtain ⟨g', o', cur', rfl, hb', _⟩ := h'.some_ ad' rfl
  simp at he
  subst he
  exact hb.ne_ hb' hne rfl
theorem RowAt.ne_blk {g : Nat} {t : TypeId} {cs : List Value} (h : RowAt w e A n c xs) (h' : Blk w g t cs) (hne : t ≠ e) : g ∉ rowT A := by
  intro hk
  obtain ⟨ad, rfl, hg⟩ := mem_rowT.1 hk
  obtain ⟨g', o, cur, rfl, hb, _⟩ := h.some_ ad rfl
  simp at hg
  subst hg
  exact h'.ne_ hb hne rfl
theorem RowAt.reads (h : RowAt w e A n c xs) : Reads w w.heap.size A n xs := by
  refine ⟨h.len, fun hn => ?_⟩
  cases hA : A with
  | none => have := h.none_ hA; have := h.le; omega
  | some ad =>
    obtain ⟨g, o, cur, rfl, hb, h1, h2⟩ := h.some_ ad hA
    refine ⟨_, rfl, hb.lt, fun j u hu => ?_⟩
    rw [add_at, hb.cell]
    rw [← h2, List.getElem?_take] at hu
    split at hu
    · simpa using hu
    · cases hu
theorem RowAt.cell (h : RowAt w e A n c xs) {j : Nat} {u : Value} (hu : xs[j]? = some u) : ∃ g o, A = some ⟨g, o, none⟩ ∧ w.cell? ⟨g, o + j, none⟩ = some u := by
  have hj : j < n := by have := (List.getElem?_eq_some_iff.1 hu).1; have := h.len; omega
  obtain ⟨g, o, rfl, _, hc⟩ := h.reads.plain (by omega)
  exact ⟨g, o, rfl, hc j u hu⟩
/-- 's[k:]'. -/
theorem RowAt.cut (h : RowAt w e A n c xs) (k : Nat) (hk : k ≤ n) : RowAt w e (cutA c k 1 A) (n - k) (c - k) (xs.drop k) := by
  have hle := h.le
  refine ⟨by simp; have := h.len; omega, by omega, by have := h.max; omega, fun hA => ?_, fun ad hA => ?_⟩
  · unfold cutA at hA
    split at hA
    · omega
    · cases hB : A with
      | none => have := h.none_ hB; omega
      | some ad => rw [hB] at hA; simp at hA
  · unfold cutA at hA
    split at hA
    · obtain ⟨g, o, cur, rfl, hb, h1, h2⟩ := h.some_ ad hA
      refine ⟨g, o, cur, rfl, hb, by omega, ?_⟩
      have : n - k = 0 := by omega
      rw [this, List.take_zero, List.drop_of_length_le (by have := h.len; omega)]
    · cases hB : A with
      | none => rw [hB] at hA; simp at hA
      | some ad' =>
        rw [hB] at hA
        simp at hA
        obtain ⟨g, o, cur, rfl, hb, h1, h2⟩ := h.some_ ad' hB
        subst hA
        refine ⟨g, o + k, cur, by rw [add_at], hb, by omega, ?_⟩
        rw [← h2, List.drop_take, List.drop_drop]
theorem rowT_cut (c k s : Nat) (A : Option Addr) : rowT (cutA c k s A) = rowT A := by
  unfold cutA
  split
  · rfl
  · cases A with
    | none => rfl
    | some ad => simp [rowT, block_add]
/-- 's[:k]'. -/
theorem RowAt.first (h : RowAt w e A n c xs) (k : Nat) (hk : k ≤ n) : RowAt w e A k c (xs.take k) := by
  have hle := h.le
  refine ⟨by simp; have := h.len; omega, by omega, h.max, h.none_, fun ad hA => ?_⟩
  obtain ⟨g, o, cur, rfl, hb, h1, h2⟩ := h.some_ ad hA
  refine ⟨g, o, cur, rfl, hb, h1, ?_⟩
  rw [← h2, List.take_take, Nat.min_eq_left hk]
/-- A block that is known whole, from its start. -/
theorem RowAt.of_blk {g : Nat} {cs : List Value} (h : Blk w g e cs) (hm : cs.length ≤ maxLen) : RowAt w e (some ⟨g, 0, none⟩) cs.length cs.length cs :=
  ⟨rfl, Nat.le_refl _, hm, (fun h => by cases h), fun ad ha => by injection ha with ha; subst ha; exact ⟨g, 0, cs, rfl, h, by simp, by simp⟩⟩
end

theorem cell_setCells_blk {w : World} {g : Nat} {t : TypeId} : ∀ (vs : List Value) (cs : List Value) (o : Nat), Blk w g t cs → o + vs.length ≤ cs.length → Blk (w.setCells g o vs) g t (splice cs o vs)
  | [], cs, o, h, _ => by simpa [World.setCells, splice] using h
  | v :: r, cs, o, h, hl => by
    rw [World.setCells]
    simp only [List.length_cons] at hl
    have h1 := h.set_ o v
    have h2 := cell_setCells_blk r (cs.set o v) (o + 1) h1 (by simp; omega)
    have e : splice cs o (v :: r) = splice (cs.set o v) (o + 1) r := by
      apply List.ext_getElem?
      intro j
      rw [splice_getElem? _ _ _ (by simp; omega), splice_getElem? _ _ _ (by simp; omega)]
      simp only [List.length_cons]
      by_cases h3 : o ≤ j ∧ j < o + (r.length + 1)
      · rw [if_pos h3]
        by_cases h4 : j = o
        · subst h4
          rw [if_neg (by omega), List.getElem?_set_self (by omega)]
          simp
        · rw [if_pos (by omega), show j - o = (j - (o + 1)) + 1 by omega, List.getElem?_cons_succ]
      · rw [if_neg h3, if_neg (by omega), List.getElem?_set_ne (by omega)]
    rw [e]
    exact h2
theorem only_setCells (w : World) (g o : Nat) (vs : List Value) : Only [g] w (w.setCells g o vs) := by
  induction vs generalizing w o with
  | nil => exact Only.refl _ _
  | cons v r ih =>
    rw [World.setCells]
    exact ((Only.refl [g] w).setCell (.inl (by simp)) v).trans (ih _ _)
/-- The row that an append makes. -/
theorem row_of_own {w : World} {base : Nat} {e : TypeId} {v : Value} {n : Nat} {xs : List Value} (h : w.ownsRow base e 1 v n xs) :
    ∃ A c, v = .slice A n c ∧ RowAt w e A n c xs ∧ ∀ k, k ∈ rowT A → base ≤ k := by
  obtain ⟨A, c, rfl, h1, h2, h3, h4, h5⟩ := Reads.of_own h
  refine ⟨A, c, rfl, ⟨h3.1, h1, h2, fun hA => ?_, fun ad hA => ?_⟩, fun k hk => ?_⟩
  · rcases h.2 with ⟨hv, _⟩ | ⟨g, cap, cur, hv, _⟩
    · injection hv
    · injection hv with hv
      rw [hA] at hv
      cases hv
  · obtain ⟨e1, _, _, cur, hb, hl, ht⟩ := h4 ad hA
    exact ⟨ad.block, 0, cur, e1, hb, by omega, by simpa using ht⟩
  · obtain ⟨ad, hA, rfl⟩ := mem_rowT.1 hk
    exact (h4 ad hA).2.1
section
variable {P : Program} {w : World}
theorem row_append_at {t e : TypeId} (ty : TypeId) {i : TypeInfo} {z : Value} {bytes : Nat} (ht : P.underlying t = some (.slice e)) (hi : P.info? e = some i) (hz : i.zero = some z)
    (hsize : i.size = 1) (hby : i.bytes = bytes) (hzs : z.cells.size = 1) {A : Option Addr} {n c : Nat} {xs : List Value} (hA : RowAt w e A n c xs)
    {B : Nat} {X : Option Addr} {m : Nat} (d : Nat) {news : List Value} (hr : Reads w B X m news) (h1 : ∀ u ∈ news, u.oneCell' = true)
    (h63 : n + m ≤ maxLen) (hbytes : (n + m) * bytes ≤ 140737488355328) :
    ∃ A' c' w', (Builtin.append_ #[t, t] ty #[.slice A n c, .slice X m d]).run P w = .ok (.slice A' (n + m) c') w' ∧ RowAt w' e A' (n + m) c' (xs ++ news) ∧ Only (rowT A) w w' ∧
      ∀ k, k ∈ rowT A' → k ∈ rowT A ∨ k = w.heap.size := by
  rcases X with _ | ad
  · have hm : m = 0 := by
      rcases Nat.eq_zero_or_pos m with h0 | h0
      · exact h0
      · obtain ⟨_, e1, _⟩ := hr.2 h0
        cases e1
    subst hm
    obtain rfl : news = [] := List.eq_nil_of_length_eq_zero hr.1
    refine ⟨A, c, w, ?_, by simpa using hA, Only.refl _ _, fun k hk => .inl hk⟩
    have hle := hA.le
    cases A with
    | none =>
      have hc := hA.none_ rfl
      subst hc
      have hn : n = 0 := by omega
      subst hn
      simp [Builtin.append_, run_underlying ht, sizeOf, typeInfo, hi, Builtin.lenOf, Builtin.firstCells]
    | some ad => simp [Builtin.append_, run_underlying ht, sizeOf, typeInfo, hi, Builtin.lenOf, Builtin.firstCells, hle, storeCells]
  · have hcells : ∀ j u, news[j]? = some u → w.cell? (ad.add j) = some u := by
      intro j u hu
      rcases Nat.eq_zero_or_pos m with h0 | h0
      · subst h0
        obtain rfl : news = [] := List.eq_nil_of_length_eq_zero hr.1
        simp at hu
      · obtain ⟨ad', e1, _, hc⟩ := hr.2 h0
        injection e1 with e1
        subst e1
        exact hc j u hu
    have hnl : news.length = m * 1 := by rw [hr.1, Nat.mul_one]
    cases A with
    | none =>
      have hc := hA.none_ rfl
      subst hc
      have hn : n = 0 := by have := hA.le; omega
      subst hn
      obtain rfl : xs = [] := List.eq_nil_of_length_eq_zero hA.len
      obtain ⟨v', w', hrun, r1, r2, _, r3⟩ := run_append_own_at (P := P) w w.heap.size t ty e i z 1 bytes ht hi hz hsize hby hzs (by omega) (.slice none 0 0) 0 [] (World.ownsRow_nil w _ e 1) ad m d news hnl hcells h1 h63 hbytes (Nat.le_refl _)
      obtain ⟨A', c', rfl, hR, hk⟩ := row_of_own r1
      refine ⟨A', c', w', hrun, hR, (Only.refl _ w).grown r2 (fun k hk => by simp [Value.ownBlock] at hk), fun k hk' => .inr ?_⟩
      obtain ⟨ad', rfl, rfl⟩ := mem_rowT.1 hk'
      simpa [Value.ownBlock] using r3
    | some b =>
      obtain ⟨g, o, cur, rfl, hb, hfit, hxs⟩ := hA.some_ b rfl
      by_cases hroom : n + m ≤ c
      · have hc0 : ∀ j, j < news.length → (w.cell? ⟨g, o + n * i.size + j, none⟩).isSome = true := by
          intro j hj
          rw [hb.cell, hsize, Nat.mul_one, List.getElem?_eq_getElem (by rw [hr.1] at hj; omega)]
          rfl
        have hrun := run_append_room_cells (P := P) w t ty e i ht hi g o n c ad m d news (by rw [hsize]; exact hnl) hcells h1 hroom hc0 (fun j _ => hb.free _)
        rw [hsize, Nat.mul_one] at hrun
        have hfit2 : o + n + news.length ≤ cur.length := by rw [hr.1]; omega
        have hb2 := cell_setCells_blk news cur (o + n) hb hfit2
        refine ⟨_, c, _, hrun, ⟨by simp [hA.len, hr.1], hroom, hA.max, (fun h => by cases h), fun ad' h' => ?_⟩, only_setCells _ _ _ _, fun k hk => .inl hk⟩
        injection h' with h'
        subst h'
        refine ⟨g, o, _, rfl, hb2, by rw [length_splice _ _ _ hfit2]; exact hfit, ?_⟩
        apply List.ext_getElem?
        intro j
        rw [List.getElem?_take, List.getElem?_drop, splice_getElem? _ _ _ hfit2, List.getElem?_append, hA.len]
        by_cases h2 : j < n
        · rw [if_pos (by omega), if_neg (by omega), if_pos h2, ← hxs, List.getElem?_take, if_pos h2, List.getElem?_drop]
        · rw [if_neg h2]
          by_cases h3 : j < n + m
          · rw [if_pos h3, if_pos (by rw [hr.1]; omega)]
            congr 1; omega
          · rw [if_neg h3, List.getElem?_eq_none (by rw [hr.1]; omega)]
      · have holds : ∀ j u, xs[j]? = some u → w.cell? ((⟨g, o, none⟩ : Addr).add j) = some u := by
          intro j u hu
          have hj : j < n := by have := (List.getElem?_eq_some_iff.1 hu).1; have := hA.len; omega
          obtain ⟨ad', e1, _, hc⟩ := hA.reads.2 (by omega)
          injection e1 with e1
          subst e1
          exact hc j u hu
        subst hby
        have hge := grownCap_ge w (n + m) c e
        have hcm : grownCap w (n + m) c e ≤ maxLen := grownCap_le_maxLen w (n + m) c e h63
        have hsmall : n + m ≤ 9223372036854775807 := by simp only [maxLen] at h63; omega
        have hlen : (xs ++ news).length = n + m := by rw [List.length_append, hA.len, hr.1]
        have hrun := run_append_grow (P := P) w t ty e i z ht hi hz ⟨g, o, none⟩ n c xs (by rw [hA.len, hsize, Nat.mul_one]) holds ad m d news (by rw [hsize]; exact hnl) hcells (by omega) (by omega) (growslice_fits (by omega) hbytes)
        refine ⟨_, _, _, hrun, ⟨hlen, hge, hcm, (fun h => by cases h), fun ad' h' => ?_⟩, ⟨rfl, rfl, rfl, by simp, fun k hk _ => Below.heap_alloc w.drew _ k hk⟩, fun k hk => .inr (by simpa [rowT_some] using hk)⟩
        injection h' with h'
        subst h'
        refine ⟨w.heap.size, 0, xs ++ news ++ (Builtin.zeroCells z.cells (grownCap w (n + m) c e - (n + m))).toList, rfl, ?_, ?_, ?_⟩
        · have := heap_alloc_new w.drew (.cells (xs.toArray ++ news.toArray ++ Builtin.zeroCells z.cells (grownCap w (n + m) c e - (n + m))) e)
          unfold Blk
          refine this.trans ?_
          congr 2
          apply Array.ext'
          simp
        · have hzl : (Builtin.zeroCells z.cells (grownCap w (n + m) c e - (n + m))).toList.length = grownCap w (n + m) c e - (n + m) := by
            rw [Array.length_toList, size_zeroCells, hzs, Nat.mul_one]
          rw [List.length_append, hlen, hzl]
          omega
        · rw [List.drop_zero, ← hlen, List.take_left]
theorem row_append {t e : TypeId} (ty : TypeId) {i : TypeInfo} {z : Value} {bytes : Nat} (ht : P.underlying t = some (.slice e)) (hi : P.info? e = some i) (hz : i.zero = some z)
    (hsize : i.size = 1) (hby : i.bytes = bytes) (hzs : z.cells.size = 1) {A : Option Addr} {n c : Nat} {xs : List Value} (hA : RowAt w e A n c xs)
    {B : Nat} {X : Option Addr} {m : Nat} (d : Nat) {news : List Value} (hr : Reads w B X m news) (h1 : ∀ u ∈ news, u.oneCell' = true)
    (h63 : n + m ≤ maxLen) (hbytes : (n + m) * bytes ≤ 140737488355328) :
    ∃ A' c' w', (Builtin.append_ #[t, t] ty #[.slice A n c, .slice X m d]).run P w = .ok (.slice A' (n + m) c') w' ∧ RowAt w' e A' (n + m) c' (xs ++ news) ∧ Only (rowT A) w w' ∧
      ∀ k, k ∈ rowT A' → k ∈ rowT A ∨ w.heap.size ≤ k := by
  obtain ⟨A', c', w', h2, h3, h4, h5⟩ := row_append_at (P := P) ty ht hi hz hsize hby hzs hA d hr h1 h63 hbytes
  exact ⟨A', c', w', h2, h3, h4, fun k hk => (h5 k hk).imp id (fun h => by omega)⟩
variable {ops : Array Oper} {rest : List Oper} {o : Oper} {a : Act} {Q : Exit → Act → World → Prop}
/-- The same at the operation; N is the new length. -/
theorem wp_rowAppend (hgd : o.guard = none) (s x : Operand) (t : TypeId) (ho : o.op = .call { callee := .builtin .append, args := #[s, x], argTypes := #[t, t] })
    (e : TypeId) (i : TypeInfo) (z : Value) (bytes : Nat) (ht : P.underlying t = some (.slice e)) (hi : P.info? e = some i) (hz : i.zero = some z)
    (hsize : i.size = 1) (hby : i.bytes = bytes) (hzs : z.cells.size = 1) (A : Option Addr) (n c : Nat) (xs : List Value) (hs : a.eval s = .slice A n c) (hA : RowAt w e A n c xs)
    (B : Nat) (X : Option Addr) (m d : Nat) (news : List Value) (hx : a.eval x = .slice X m d) (hr : Reads w B X m news) (h1 : ∀ u ∈ news, u.oneCell' = true)
    (h63 : n + m ≤ maxLen) (hbytes : (n + m) * bytes ≤ 140737488355328) (N : Nat) (hN : N = n + m)
    (h : ∀ A' c' w', Hid (RowAt w' e A' N c' (xs ++ news)) → Only (rowT A) w w' → Hid (∀ k, k ∈ rowT A' → k ∈ rowT A ∨ w.heap.size ≤ k) → wpList P ops Q rest (a.put o.dst (.slice A' N c')) w') :
    wpList P ops Q (o :: rest) a w := by
  subst hN
  refine wpList_plain hgd fun K hK => ?_
  obtain ⟨A', c', w', hrun, h2, h3, h4⟩ := row_append (P := P) o.type ht hi hz hsize hby hzs hA d hr h1 h63 hbytes
  unfold Oper.wp execOp
  simp only [ho, resolve, invoke, builtin, Sem.run_bind, Sem.run_pure, Result.andThen_ok, List.map_toArray, List.map_cons, List.map_nil, hs, hx, hrun]
  exact hK _ _ (h A' c' w' h2 h3 h4)
end

end Go.Proofs.YtpcapmdfjmpdiaaGreatDoor

namespace Go.Proofs.YtpcapmdfjmpdiaaGreatDoor
open Go.RowKit

/-- '.slice A n c' holds the cells xs (z for each element), in a block that is known whole. -/
structure RowK (w : World) (e : TypeId) (z : Nat) (A : Option Addr) (n c : Nat) (xs : List Value) : Prop where
  len : xs.length = n * z
  le : n ≤ c
  max : c ≤ maxLen
  none_ : A = none → c = 0
  some_ : ∀ ad, A = some ad → ∃ g o cur, ad = ⟨g, o, none⟩ ∧ Blk w g e cur ∧ o + c * z ≤ cur.length ∧ (cur.drop o).take (n * z) = xs
section
variable {w w' : World} {e : TypeId} {z : Nat} {A : Option Addr} {n c : Nat} {xs : List Value}
theorem RowK.lt (h : RowK w e z A n c xs) : ∀ k, k ∈ rowT A → k < w.heap.size := by
  intro k hk
  obtain ⟨ad, rfl, rfl⟩ := mem_rowT.1 hk
  obtain ⟨g, o, cur, rfl, hb, _⟩ := h.some_ ad rfl
  exact hb.lt
theorem RowK.nil (w : World) (e : TypeId) (z : Nat) : RowK w e z none 0 0 [] := ⟨by simp, Nat.le_refl _, Nat.zero_le _, fun _ => rfl, fun _ h => by cases h⟩
theorem RowK.keep (h : RowK w e z A n c xs) (hk : ∀ k, k ∈ rowT A → w'.heap[k]? = w.heap[k]?) : RowK w' e z A n c xs :=
  ⟨h.len, h.le, h.max, h.none_, fun ad ha => by
    obtain ⟨g, o, cur, rfl, hb, h1, h2⟩ := h.some_ ad ha
    exact ⟨g, o, cur, rfl, (hk g (mem_rowT.2 ⟨_, ha, rfl⟩)).trans hb, h1, h2⟩⟩
theorem RowK.only {S : List Nat} (h : RowK w e z A n c xs) (ho : Only S w w') (hS : ∀ k, k ∈ rowT A → k ∉ S) : RowK w' e z A n c xs :=
  h.keep fun k hk => ho.block k (h.lt k hk) (hS k hk)
theorem RowK.below {B : Nat} (h : RowK w e z A n c xs) (hb : Below B w w') (hB : ∀ k, k ∈ rowT A → k < B) : RowK w' e z A n c xs :=
  h.keep fun k hk => hb.block k (hB k hk)
theorem RowK.alloc (h : RowK w e z A n c xs) (o : Obj) : RowK (w.alloc o) e z A n c xs := h.keep fun k hk => Below.heap_alloc _ _ _ (h.lt k hk)
theorem RowK.drew (h : RowK w e z A n c xs) : RowK w.drew e z A n c xs := h.keep fun _ _ => rfl
/-- A cell of the row. -/
theorem RowK.cell (h : RowK w e z A n c xs) {j : Nat} {u : Value} (hu : xs[j]? = some u) : ∃ g o, A = some ⟨g, o, none⟩ ∧ w.cell? ⟨g, o + j, none⟩ = some u := by
  have hj : j < n * z := by have := (List.getElem?_eq_some_iff.1 hu).1; have := h.len; omega
  cases hA : A with
  | none =>
    have h1 := h.none_ hA
    have h2 := h.le
    have h3 : n = 0 := by omega
    rw [h3, Nat.zero_mul] at hj
    omega
  | some ad =>
    obtain ⟨g, o, cur, rfl, hb, h1, h2⟩ := h.some_ ad hA
    refine ⟨g, o, rfl, ?_⟩
    rw [hb.cell]
    rw [← h2, List.getElem?_take, if_pos hj] at hu
    simpa using hu
/-- Its address, where there is an element. -/
theorem RowK.addr (h : RowK w e z A n c xs) (hn : 0 < c) : ∃ g o, A = some ⟨g, o, none⟩ ∧ g < w.heap.size ∧ ∀ j u, xs[j]? = some u → w.cell? ⟨g, o + j, none⟩ = some u := by
  cases hA : A with
  | none => have := h.none_ hA; omega
  | some ad =>
    obtain ⟨g, o, cur, rfl, hb, h1, h2⟩ := h.some_ ad hA
    refine ⟨g, o, rfl, hb.lt, fun j u hu => ?_⟩
    rw [hb.cell]
    rw [← h2, List.getElem?_take] at hu
    by_cases hj : j < n * z
    · rw [if_pos hj] at hu
      simpa using hu
    · rw [if_neg hj] at hu
      cases hu
/-- A cell may be written. -/
theorem RowK.free (h : RowK w e z A n c xs) {g o : Nat} (hA : A = some ⟨g, o, none⟩) (j : Nat) : w.frozen? ⟨g, j, none⟩ = false := by
  obtain ⟨g', o', cur, e1, hb, _⟩ := h.some_ _ hA
  injection e1 with e1 e2
  subst e1
  exact hb.free _
/-- 's[:k]'. -/
theorem RowK.first (h : RowK w e z A n c xs) (k : Nat) (hk : k ≤ n) : RowK w e z A k c (xs.take (k * z)) := by
  have hle := h.le
  have hkz : k * z ≤ n * z := Nat.mul_le_mul_right _ hk
  refine ⟨by rw [List.length_take, h.len]; omega, by omega, h.max, h.none_, fun ad hA => ?_⟩
  obtain ⟨g, o, cur, rfl, hb, h1, h2⟩ := h.some_ ad hA
  refine ⟨g, o, cur, rfl, hb, h1, ?_⟩
  rw [← h2, List.take_take, Nat.min_eq_left hkz]
/-- 's[k:]'. -/
theorem RowK.cut (h : RowK w e z A n c xs) (k : Nat) (hk : k ≤ n) : RowK w e z (cutA c k z A) (n - k) (c - k) (xs.drop (k * z)) := by
  have hle := h.le
  have hkz : k * z ≤ n * z := Nat.mul_le_mul_right _ hk
  have hnz : n * z ≤ c * z := Nat.mul_le_mul_right _ hle
  have hs1 : (n - k) * z = n * z - k * z := Nat.sub_mul _ _ _
  have hs2 : (c - k) * z = c * z - k * z := Nat.sub_mul _ _ _
  refine ⟨by rw [List.length_drop, h.len, hs1], by omega, by have := h.max; omega, fun hA => ?_, fun ad hA => ?_⟩
  · unfold cutA at hA
    split at hA
    · omega
    · cases hB : A with
      | none => have := h.none_ hB; omega
      | some ad => rw [hB] at hA; simp at hA
  · unfold cutA at hA
    split at hA
    · rename_i hck
      obtain ⟨g, o, cur, rfl, hb, h1, h2⟩ := h.some_ ad hA
      refine ⟨g, o, cur, rfl, hb, ?_, ?_⟩
      · rw [hs2]; omega
      · have hnk : n - k = 0 := by omega
        rw [hnk, Nat.zero_mul, List.take_zero, List.drop_of_length_le]
        rw [h.len]
        have : n ≤ k := by omega
        exact Nat.mul_le_mul_right _ this
    · cases hB : A with
      | none => rw [hB] at hA; simp at hA
      | some ad' =>
        rw [hB] at hA
        simp at hA
        obtain ⟨g, o, cur, rfl, hb, h1, h2⟩ := h.some_ ad' hB
        subst hA
        refine ⟨g, o + k * z, cur, by rw [add_at], hb, by rw [hs2]; omega, ?_⟩
        rw [← h2, List.drop_take, List.drop_drop, hs1]
/-- A block that is known whole, from its start. -/
theorem RowK.of_blk {g : Nat} {cs : List Value} (h : Blk w g e cs) (m : Nat) (hl : cs.length = m * z) (hm : m ≤ maxLen) : RowK w e z (some ⟨g, 0, none⟩) m m cs :=
  ⟨hl, Nat.le_refl _, hm, (fun h => by cases h), fun ad ha => by injection ha with ha; subst ha; exact ⟨g, 0, cs, rfl, h, by omega, by rw [List.drop_zero, ← hl, List.take_length]⟩⟩
/-- A cell is written. -/
theorem RowK.set_ (h : RowK w e z A n c xs) {g o : Nat} (hA : A = some ⟨g, o, none⟩) (j : Nat) (hj : j < n * z) (v : Value) : RowK (w.setCell ⟨g, o + j, none⟩ v) e z A n c (xs.set j v) := by
  refine ⟨by rw [List.length_set]; exact h.len, h.le, h.max, h.none_, fun ad ha => ?_⟩
  obtain ⟨g', o', cur, rfl, hb, h1, h2⟩ := h.some_ ad ha
  rw [hA] at ha
  injection ha with ha
  injection ha with e1 e2
  subst e1 e2
  refine ⟨g, o, cur.set (o + j) v, rfl, hb.set_ _ v, by rw [List.length_set]; exact h1, ?_⟩
  rw [← h2]
  apply List.ext_getElem?
  intro i
  rw [List.getElem?_take, List.getElem?_drop, List.getElem?_set]
  have hn : n * z ≤ c * z := Nat.mul_le_mul_right _ h.le
  by_cases hi : i < n * z
  · rw [if_pos hi]
    by_cases e : o + j = o + i
    · have : j = i := by omega
      subst this
      rw [if_pos rfl, if_pos (by omega), List.getElem?_set_self (by rw [List.length_take, List.length_drop]; omega)]
    · rw [if_neg e, List.getElem?_set_ne (by omega), List.getElem?_take, if_pos hi, List.getElem?_drop]
  · rw [if_neg hi, List.getElem?_eq_none (by rw [List.length_set, List.length_take]; omega)]
end

/-- The row that an append makes. -/
theorem rowK_of_own {w : World} {base : Nat} {e : TypeId} {z : Nat} {v : Value} {n : Nat} {xs : List Value} (h : w.ownsRow base e z v n xs) :
    ∃ A c, v = .slice A n c ∧ RowK w e z A n c xs ∧ ∀ k, k ∈ rowT A → base ≤ k := by
  obtain ⟨hl, h2⟩ := h
  rcases h2 with ⟨rfl, rfl⟩ | ⟨g, cap, cur, rfl, hb, hg, hnc, hcm, hcs, htk⟩
  · rw [Nat.zero_mul] at hl
    obtain rfl := List.eq_nil_of_length_eq_zero hl
    exact ⟨none, 0, rfl, RowK.nil _ _ _, fun k hk => by simp [rowT_none] at hk⟩
  · refine ⟨_, cap, rfl, ⟨hl, hnc, hcm, (fun h => by cases h), fun ad ha => ?_⟩, fun k hk => ?_⟩
    · injection ha with ha
      subst ha
      refine ⟨g, 0, cur.toList, rfl, ?_, ?_, ?_⟩
      · unfold Blk
        exact hg
      · rw [Array.length_toList, hcs]; omega
      · rw [List.drop_zero]; exact htk
    · rw [rowT_some] at hk
      simp at hk
      subst hk
      exact hb
section
variable {P : Program} {w : World}
theorem rowK_append {t e : TypeId} (ty : TypeId) {i : TypeInfo} {zv : Value} {z bytes : Nat} (ht : P.underlying t = some (.slice e)) (hi : P.info? e = some i) (hz : i.zero = some zv)
    (hsize : i.size = z) (hby : i.bytes = bytes) (hzs : zv.cells.size = z) (hz0 : 0 < z) {A : Option Addr} {n c : Nat} {xs : List Value} (hA : RowK w e z A n c xs)
    {X : Option Addr} {m : Nat} (d : Nat) {news : List Value} (hnl : news.length = m * z) (hr : 0 < m → ∃ ad, X = some ad ∧ ∀ j u, news[j]? = some u → w.cell? (ad.add j) = some u) (h1 : ∀ u ∈ news, u.oneCell' = true)
    (h63 : n + m ≤ maxLen) (hbytes : (n + m) * bytes ≤ 140737488355328) :
    ∃ A' c' w', (Builtin.append_ #[t, t] ty #[.slice A n c, .slice X m d]).run P w = .ok (.slice A' (n + m) c') w' ∧ RowK w' e z A' (n + m) c' (xs ++ news) ∧ Only (rowT A) w w' ∧
      ∀ k, k ∈ rowT A' → k ∈ rowT A ∨ k = w.heap.size := by
  rcases X with _ | ad
  · have hm : m = 0 := by
      rcases Nat.eq_zero_or_pos m with h0 | h0
      · exact h0
      · obtain ⟨_, e1, _⟩ := hr h0
        cases e1
    subst hm
    rw [Nat.zero_mul] at hnl
    obtain rfl : news = [] := List.eq_nil_of_length_eq_zero hnl
    refine ⟨A, c, w, ?_, by simpa using hA, Only.refl _ _, fun k hk => .inl hk⟩
    have hle := hA.le
    cases A with
    | none =>
      have hc := hA.none_ rfl
      subst hc
      have hn : n = 0 := by omega
      subst hn
      simp [Builtin.append_, run_underlying ht, sizeOf, typeInfo, hi, Builtin.lenOf, Builtin.firstCells]
    | some ad => simp [Builtin.append_, run_underlying ht, sizeOf, typeInfo, hi, Builtin.lenOf, Builtin.firstCells, hle, storeCells]
  · have hcells : ∀ j u, news[j]? = some u → w.cell? (ad.add j) = some u := by
      intro j u hu
      rcases Nat.eq_zero_or_pos m with h0 | h0
      · subst h0
        rw [Nat.zero_mul] at hnl
        obtain rfl : news = [] := List.eq_nil_of_length_eq_zero hnl
        simp at hu
      · obtain ⟨ad', e1, hc⟩ := hr h0
        injection e1 with e1
        subst e1
        exact hc j u hu
    cases A with
    | none =>
      have hc := hA.none_ rfl
      subst hc
      have hn : n = 0 := by have := hA.le; omega
      subst hn
      have hx0 : xs = [] := List.eq_nil_of_length_eq_zero (by rw [hA.len, Nat.zero_mul])
      subst hx0
      obtain ⟨v', w', hrun, r1, r2, _, r3⟩ := run_append_own_at (P := P) w w.heap.size t ty e i zv z bytes ht hi hz hsize hby hzs hz0 (.slice none 0 0) 0 [] (World.ownsRow_nil w _ e z) ad m d news hnl hcells h1 h63 hbytes (Nat.le_refl _)
      obtain ⟨A', c', rfl, hR, hk⟩ := rowK_of_own r1
      refine ⟨A', c', w', hrun, hR, (Only.refl _ w).grown r2 (fun k hk => by simp [Value.ownBlock] at hk), fun k hk' => .inr ?_⟩
      obtain ⟨ad', rfl, rfl⟩ := mem_rowT.1 hk'
      simpa [Value.ownBlock] using r3
    | some b =>
      obtain ⟨g, o, cur, rfl, hb, hfit, hxs⟩ := hA.some_ b rfl
      by_cases hroom : n + m ≤ c
      · have hnm : n * z + m * z ≤ c * z := by rw [← Nat.add_mul]; exact Nat.mul_le_mul_right _ hroom
        have hc0 : ∀ j, j < news.length → (w.cell? ⟨g, o + n * i.size + j, none⟩).isSome = true := by
          intro j hj
          rw [hb.cell, hsize, List.getElem?_eq_getElem (by rw [hnl] at hj; omega)]
          rfl
        have hrun := run_append_room_cells (P := P) w t ty e i ht hi g o n c ad m d news (by rw [hsize]; exact hnl) hcells h1 hroom hc0 (fun j _ => hb.free _)
        rw [hsize] at hrun
        have hfit2 : o + n * z + news.length ≤ cur.length := by rw [hnl]; omega
        have hb2 := cell_setCells_blk news cur (o + n * z) hb hfit2
        refine ⟨_, c, _, hrun, ⟨by rw [List.length_append, hA.len, hnl, Nat.add_mul], hroom, hA.max, (fun h => by cases h), fun ad' h' => ?_⟩, only_setCells _ _ _ _, fun k hk => .inl hk⟩
        injection h' with h'
        subst h'
        refine ⟨g, o, _, rfl, hb2, by rw [length_splice _ _ _ hfit2]; exact hfit, ?_⟩
        apply List.ext_getElem?
        intro j
        rw [List.getElem?_take, List.getElem?_drop, splice_getElem? _ _ _ hfit2, List.getElem?_append, hA.len, Nat.add_mul]
        by_cases h2 : j < n * z
        · rw [if_pos (by omega), if_neg (by omega), if_pos h2, ← hxs, List.getElem?_take, if_pos h2, List.getElem?_drop]
        · rw [if_neg h2]
          by_cases h3 : j < n * z + m * z
          · rw [if_pos h3, if_pos (by rw [hnl]; omega)]
            congr 1; omega
          · rw [if_neg h3, List.getElem?_eq_none (by rw [hnl]; omega)]
      · have holds : ∀ j u, xs[j]? = some u → w.cell? ((⟨g, o, none⟩ : Addr).add j) = some u := by
          intro j u hu
          obtain ⟨g', o', e1, hc⟩ := hA.cell hu
          injection e1 with e1
          injection e1 with e1 e2
          subst e1 e2
          rw [add_at]
          exact hc
        subst hby
        have hge := grownCap_ge w (n + m) c e
        have hcm : grownCap w (n + m) c e ≤ maxLen := grownCap_le_maxLen w (n + m) c e h63
        have hsmall : n + m ≤ 9223372036854775807 := by simp only [maxLen] at h63; omega
        have hlen : (xs ++ news).length = (n + m) * z := by rw [List.length_append, hA.len, hnl, Nat.add_mul]
        have hrun := run_append_grow (P := P) w t ty e i zv ht hi hz ⟨g, o, none⟩ n c xs (by rw [hA.len, hsize]) holds ad m d news (by rw [hsize]; exact hnl) hcells (by omega) (by omega) (growslice_fits (by omega) hbytes)
        refine ⟨_, _, _, hrun, ⟨hlen, hge, hcm, (fun h => by cases h), fun ad' h' => ?_⟩, ⟨rfl, rfl, rfl, by simp, fun k hk _ => Below.heap_alloc w.drew _ k hk⟩, fun k hk => .inr (by simpa [rowT_some] using hk)⟩
        injection h' with h'
        subst h'
        refine ⟨w.heap.size, 0, xs ++ news ++ (Builtin.zeroCells zv.cells (grownCap w (n + m) c e - (n + m))).toList, rfl, ?_, ?_, ?_⟩
        · have := heap_alloc_new w.drew (.cells (xs.toArray ++ news.toArray ++ Builtin.zeroCells zv.cells (grownCap w (n + m) c e - (n + m))) e)
          unfold Blk
          refine this.trans ?_
          congr 2
          apply Array.ext'
          simp
        · have hzl : (Builtin.zeroCells zv.cells (grownCap w (n + m) c e - (n + m))).toList.length = (grownCap w (n + m) c e - (n + m)) * z := by
            rw [Array.length_toList, size_zeroCells, hzs]
          have hmul : (n + m) * z ≤ grownCap w (n + m) c e * z := Nat.mul_le_mul_right _ hge
          rw [List.length_append, hlen, hzl, Nat.sub_mul]
          omega
        · rw [List.drop_zero, ← hlen, List.take_left]
variable {ops : Array Oper} {rest : List Oper} {o : Oper} {a : Act} {Q : Exit → Act → World → Prop}
/-- The same at the operation; N is the new length. -/
theorem wp_rowKAppend (hgd : o.guard = none) (s x : Operand) (t : TypeId) (ho : o.op = .call { callee := .builtin .append, args := #[s, x], argTypes := #[t, t] })
    (e : TypeId) (i : TypeInfo) (zv : Value) (z bytes : Nat) (ht : P.underlying t = some (.slice e)) (hi : P.info? e = some i) (hz : i.zero = some zv)
    (hsize : i.size = z) (hby : i.bytes = bytes) (hzs : zv.cells.size = z) (hz0 : 0 < z) (A : Option Addr) (n c : Nat) (xs : List Value) (hs : a.eval s = .slice A n c) (hA : RowK w e z A n c xs)
    (X : Option Addr) (m d : Nat) (news : List Value) (hx : a.eval x = .slice X m d) (hnl : news.length = m * z) (hr : 0 < m → ∃ ad, X = some ad ∧ ∀ j u, news[j]? = some u → w.cell? (ad.add j) = some u) (h1 : ∀ u ∈ news, u.oneCell' = true)
    (h63 : n + m ≤ maxLen) (hbytes : (n + m) * bytes ≤ 140737488355328) (N : Nat) (hN : N = n + m)
    (h : ∀ A' c' w', Hid (RowK w' e z A' N c' (xs ++ news)) → Only (rowT A) w w' → Hid (∀ k, k ∈ rowT A' → k ∈ rowT A ∨ k = w.heap.size) → wpList P ops Q rest (a.put o.dst (.slice A' N c')) w') :
    wpList P ops Q (o :: rest) a w := by
  subst hN
  refine wpList_plain hgd fun K hK => ?_
  obtain ⟨A', c', w', hrun, h2, h3, h4⟩ := rowK_append (P := P) o.type ht hi hz hsize hby hzs hz0 hA d hnl hr h1 h63 hbytes
  unfold Oper.wp execOp
  simp only [ho, resolve, invoke, builtin, Sem.run_bind, Sem.run_pure, Result.andThen_ok, List.map_toArray, List.map_cons, List.map_nil, hs, hx, hrun]
  exact hK _ _ (h A' c' w' (Lib.hid h2) h3 (Lib.hid h4))
end
end Go.Proofs.YtpcapmdfjmpdiaaGreatDoor

namespace Go.Proofs.YtpcapmdfjmpdiaaGreatDoor
open Go.RowKit
set_option linter.unusedVariables false

section
variable {α : Type} {f : α → List Value} {z : Nat}
def flat (f : α → List Value) (l : List α) : List Value := (l.map f).flatten
theorem flat_cons (a : α) (l : List α) : flat f (a :: l) = f a ++ flat f l := rfl
theorem flat_append (l m : List α) : flat f (l ++ m) = flat f l ++ flat f m := by simp [flat]
theorem flat_one (a : α) : flat f [a] = f a := by simp [flat]
theorem flat_length (hf : ∀ a, (f a).length = z) : ∀ l : List α, (flat f l).length = l.length * z
  | [] => by simp [flat]
  | a :: l => by rw [flat_cons, List.length_append, hf, flat_length hf l, List.length_cons, Nat.add_mul]; omega
theorem flat_take (hf : ∀ a, (f a).length = z) : ∀ (l : List α) (k : Nat), (flat f l).take (k * z) = flat f (l.take k)
  | [], k => by simp [flat]
  | a :: l, 0 => by simp [flat]
  | a :: l, k + 1 => by
    rw [flat_cons, List.take_succ_cons, flat_cons, Nat.add_mul, Nat.one_mul, Nat.add_comm, ← hf a, List.take_length_add_append, hf a, flat_take hf l k]
theorem flat_drop (hf : ∀ a, (f a).length = z) : ∀ (l : List α) (k : Nat), (flat f l).drop (k * z) = flat f (l.drop k)
  | [], k => by simp [flat]
  | a :: l, 0 => by simp [flat]
  | a :: l, k + 1 => by
    rw [flat_cons, List.drop_succ_cons, Nat.add_mul, Nat.one_mul, Nat.add_comm, ← hf a, List.drop_length_add_append, hf a, flat_drop hf l k]
theorem flat_at (hf : ∀ a, (f a).length = z) {l : List α} {i : Nat} {a : α} (h : l[i]? = some a) {j : Nat} (hj : j < z) : (flat f l)[i * z + j]? = (f a)[j]? := by
  obtain ⟨hi, hv⟩ := List.getElem?_eq_some_iff.1 h
  have e1 : ((flat f l).drop (i * z))[j]? = (flat f l)[i * z + j]? := List.getElem?_drop
  rw [← e1, flat_drop hf, List.drop_eq_getElem_cons hi, flat_cons, List.getElem?_append_left (by rw [hf]; exact hj), hv]
theorem flat_mem {l : List α} {u : Value} (h : u ∈ flat f l) : ∃ a, a ∈ l ∧ u ∈ f a := by
  unfold flat at h
  obtain ⟨x, hx, hu⟩ := List.mem_flatten.1 h
  obtain ⟨a, ha, rfl⟩ := List.mem_map.1 hx
  exact ⟨a, ha, hu⟩
/-- The slice '.slice A l.length c' holds l. -/
def KRow (w : World) (e : TypeId) (z : Nat) (f : α → List Value) (A : Option Addr) (c : Nat) (l : List α) : Prop := RowK w e z A l.length c (flat f l)
variable {w w' : World} {e : TypeId} {A : Option Addr} {c : Nat} {l : List α}
theorem KRow.nil (w : World) (e : TypeId) (z : Nat) (f : α → List Value) : KRow w e z f none 0 ([] : List α) := RowK.nil w e z
theorem KRow.lt (h : KRow w e z f A c l) : ∀ k, k ∈ rowT A → k < w.heap.size := RowK.lt h
theorem KRow.only {S : List Nat} (h : KRow w e z f A c l) (ho : Only S w w') (hS : ∀ k, k ∈ rowT A → k ∉ S) : KRow w' e z f A c l := RowK.only h ho hS
theorem KRow.alloc (h : KRow w e z f A c l) (o : Obj) : KRow (w.alloc o) e z f A c l := RowK.alloc h o
theorem KRow.drew (h : KRow w e z f A c l) : KRow w.drew e z f A c l := RowK.drew h
/-- An element's cells. -/
theorem KRow.at_ (h : KRow w e z f A c l) (hf : ∀ a, (f a).length = z) {i : Nat} {a : α} (ha : l[i]? = some a) (hz : 0 < z) : ∃ g o, A = some ⟨g, o, none⟩ ∧ g < w.heap.size ∧ ∀ j u, (f a)[j]? = some u → w.cell? ⟨g, o + i * z + j, none⟩ = some u := by
  have hi := (List.getElem?_eq_some_iff.1 ha).1
  obtain ⟨g, o, rfl, hg, hc⟩ := RowK.addr h (by have := h.le; omega)
  refine ⟨g, o, rfl, hg, fun j u hu => ?_⟩
  have hj : j < z := by rw [← hf a]; exact (List.getElem?_eq_some_iff.1 hu).1
  have := hc (i * z + j) u (by rw [flat_at hf ha hj]; exact hu)
  rwa [← Nat.add_assoc] at this
theorem KRow.addr (h : KRow w e z f A c l) (hl : 0 < c) : ∃ g o, A = some ⟨g, o, none⟩ ∧ g < w.heap.size := by
  obtain ⟨g, o, rfl, hg, _⟩ := RowK.addr h hl
  exact ⟨g, o, rfl, hg⟩
theorem KRow.first (h : KRow w e z f A c l) (hf : ∀ a, (f a).length = z) (k : Nat) (hk : k ≤ l.length) : KRow w e z f A c (l.take k) := by
  have := RowK.first h k hk
  rw [flat_take hf] at this
  unfold KRow
  rw [List.length_take, Nat.min_eq_left hk]
  exact this
theorem KRow.cut (h : KRow w e z f A c l) (hf : ∀ a, (f a).length = z) (k : Nat) (hk : k ≤ l.length) : KRow w e z f (cutA c k z A) (c - k) (l.drop k) := by
  have := RowK.cut h k hk
  rw [flat_drop hf] at this
  unfold KRow
  rw [List.length_drop]
  exact this
theorem KRow.of_blk {g : Nat} (h : Blk w g e (flat f l)) (hf : ∀ a, (f a).length = z) (hm : l.length ≤ maxLen) : KRow w e z f (some ⟨g, 0, none⟩) l.length l := RowK.of_blk h l.length (flat_length hf l) hm
/-- What may be appended: its cells lie behind its address. -/
def Src (w : World) (z : Nat) (f : α → List Value) (X : Option Addr) (m : List α) : Prop := 0 < m.length → ∃ ad, X = some ad ∧ ∀ j u, (flat f m)[j]? = some u → w.cell? (ad.add j) = some u
theorem KRow.src {m : List α} {X : Option Addr} {d : Nat} (h : KRow w e z f X d m) : Src w z f X m := fun hm => by
  obtain ⟨g, o, rfl, _, hc⟩ := RowK.addr h (by have := h.le; omega)
  exact ⟨_, rfl, fun j u hu => by rw [add_at]; exact hc j u hu⟩
theorem src_blk {g : Nat} {m : List α} {cs : List Value} (h : Blk w g e cs) (hc : cs = flat f m) : Src w z f (some ⟨g, 0, none⟩) m := fun _ => ⟨_, rfl, fun j u hu => by rw [add_at, Nat.zero_add, h.cell, hc]; exact hu⟩
end

section
variable {P : Program} {w : World} {ops : Array Oper} {rest : List Oper} {o : Oper} {a : Act} {Q : Exit → Act → World → Prop}
/-- An append, at the operation. -/
theorem wp_kAppend {α : Type} (hgd : o.guard = none) (s x : Operand) (t : TypeId) (ho : o.op = .call { callee := .builtin .append, args := #[s, x], argTypes := #[t, t] })
    (e : TypeId) (zv : Value) (z bytes : Nat) (f : α → List Value) (hf : ∀ a, (f a).length = z) (h1 : ∀ a u, u ∈ f a → u.oneCell' = true) (ht : P.underlying t = some (.slice e)) (hinfo : (P.info? e).map (fun i => (i.zero, i.size, i.bytes)) = some (some zv, z, bytes))
    (hzs : zv.cells.size = z) (hz0 : 0 < z) (A : Option Addr) (c : Nat) (l : List α) (n : Nat) (hn : l.length = n) (hs : a.eval s = .slice A n c) (hA : KRow w e z f A c l)
    (X : Option Addr) (d : Nat) (m : List α) (k : Nat) (hk : m.length = k) (hx : a.eval x = .slice X k d) (hr : Src w z f X m)
    (h63 : n + k ≤ maxLen) (hbytes : (n + k) * bytes ≤ 140737488355328) (N : Nat) (hN : N = n + k)
    (h : ∀ A' c' w', Hid (KRow w' e z f A' c' (l ++ m)) → Only (rowT A) w w' → Hid (∀ k, k ∈ rowT A' → k ∈ rowT A ∨ k = w.heap.size) → wpList P ops Q rest (a.put o.dst (.slice A' N c')) w') :
    wpList P ops Q (o :: rest) a w := by
  obtain ⟨i0, hi, hz, hsize, hby⟩ := info_parts hinfo
  subst hn hk
  refine wp_rowKAppend hgd s x t ho e i0 zv z bytes ht hi hz hsize hby hzs hz0 A l.length c (flat f l) hs hA X m.length d (flat f m) hx (flat_length hf m) hr (fun u hu => by obtain ⟨y, _, hy⟩ := flat_mem hu; exact h1 y u hy) h63 hbytes N hN ?_
  intro A' c' w' h2 h3 h4
  refine h A' c' w' (Lib.hid ?_) h3 h4
  have := h2.out
  unfold KRow
  rw [flat_append, List.length_append, ← hN]
  exact this
end
end Go.Proofs.YtpcapmdfjmpdiaaGreatDoor

namespace Go.Proofs.YtpcapmdfjmpdiaaGreatDoor
open Go.RowKit

section
variable {P : Program} {ops : Array Oper} {Q : Exit → Act → World → Prop}

/-- A world that comes later: of the blocks of w at most those of T have turned. -/
structure Later (T : List Nat) (w0 : World) where
  w : World
  h : Only T w0 w
instance {T : List Nat} {w0 : World} : Nonempty (Later T w0) := ⟨⟨w0, Only.refl _ _⟩⟩
/-- Operations that yield a value and call nothing. -/
def plainOp : Op → Bool
  | .move _ | .assign _ | .pick _ _ _ | .nilCheck _ | .binOp _ _ _ _ _ | .unOp _ _ _ | .convert _ _ _ | .fieldAddr _ _ _ | .field _ _ _ | .indexAddr _ _ _ | .index _ _ _ | .extract _ _ | .slice _ _ _ _ _ | .load _ _ | .makeInterface _ _ => true
  | .call c => (match c.callee with | .builtin .len | .builtin .cap | .builtin .min | .builtin .max => true | _ => false)
  | _ => false
theorem value_of {s : Sem Value} {w w' : World} {n : Next} (h : (do pure (Next.value (← s)) : Sem Next).run P w = .ok n w') : ∃ v, n = .value v := by
  rw [Sem.run_bind] at h
  cases hs : s.run P w with
  | ok v w1 =>
    rw [hs] at h
    simp only [Result.andThen, Sem.run_pure] at h
    injection h with h1 _
    exact ⟨v, h1.symm⟩
  | halt x w1 =>
    rw [hs] at h
    simp [Result.andThen] at h
theorem ok_bind {α β : Type} {s : Sem α} {f : α → Sem β} {w w' : World} {n : β} (h : (s >>= f).run P w = .ok n w') : ∃ x w1, (f x).run P w1 = .ok n w' := by
  rw [Sem.run_bind] at h
  cases hs : s.run P w with
  | ok v w1 =>
    rw [hs] at h
    exact ⟨v, w1, h⟩
  | halt x w1 =>
    rw [hs] at h
    simp [Result.andThen] at h
theorem pure_value {v : Value} {w w' : World} {n : Next} (h : (pure (Next.value v) : Sem Next).run P w = .ok n w') : ∃ v, n = .value v := by
  simp only [Sem.run_pure] at h
  injection h with h1 _
  exact ⟨v, h1.symm⟩
theorem panic_never {w w' : World} {n : Next} (h : (runtimePanic .nilDeref : Sem Next).run P w = .ok n w') : False := by
  simp [runtimePanic] at h
theorem plain_value {ρ : Operand → Value} {o : Oper} {w w' : World} {n : Next} (h : plainOp o.op = true) (hr : (execOp ρ o).run P w = .ok n w') : ∃ v, n = .value v := by
  obtain ⟨dst, op, type, pos, after, guard⟩ := o
  cases op <;> simp only [plainOp] at h <;> first | (cases h; done) | skip
  all_goals simp only [execOp] at hr
  all_goals first | exact value_of hr | skip
  · exact pure_value hr
  · exact pure_value hr
  · obtain ⟨_, _, h1⟩ := ok_bind hr
    exact pure_value h1
  · split at hr
    · exact (panic_never hr).elim
    · exact (panic_never hr).elim
    · exact (panic_never hr).elim
    · split at hr
      · exact (panic_never hr).elim
      · obtain ⟨_, _, h1⟩ := ok_bind hr
        obtain ⟨_, _, h2⟩ := ok_bind h1
        split at h2
        · obtain ⟨_, _, h3⟩ := ok_bind h2
          exact pure_value h3
        · exact pure_value h2
      · exact pure_value hr
    · exact pure_value hr
  · rename_i c
    obtain ⟨callee, args, argTypes⟩ := c
    split at h <;> first | (cases h; done) | skip
    all_goals
      rename_i hc
      simp only at hc
      subst hc
      simp only [resolve, Sem.run_bind, Sem.run_pure, Result.andThen, invoke, builtin] at hr
      exact value_of (by simpa only [Sem.run_bind, Sem.run_pure, Result.andThen] using hr)
/-- Operations 'is', one after the other, each with ONE value in every world of the class. -/
def wpSeg (P : Program) (ops : Array Oper) (C : World → Prop) (Q : Act → Prop) : List Nat → Act → Prop
  | [], a => Q a
  | i :: is, a => ∃ o, ops[i]? = some o ∧ if Region.wanted o (yielded ops a.tmps) = true then o.quiet P a C (wpSeg P ops C Q is) else wpSeg P ops C Q is (a.put o.dst undef)
/-- The same along the region's own list: 'true' marks the operations that are taken. -/
def wpMask (P : Program) (ops : Array Oper) (C : World → Prop) (Q : Act → Prop) : List Bool → List Oper → Act → Prop
  | true :: m, o :: l, a => if Region.wanted o (yielded ops a.tmps) = true then o.quiet P a C (wpMask P ops C Q m l) else wpMask P ops C Q m l (a.put o.dst undef)
  | false :: m, _ :: l, a => wpMask P ops C Q m l a
  | _, _, a => Q a
theorem wpMask_nil {C : World → Prop} {K : Act → Prop} {a : Act} {l : List Oper} (h : K a) : wpMask P ops C K [] l a := h
theorem wpMask_pass {C : World → Prop} {K : Act → Prop} {m : List Bool} {a : Act} {o : Oper} {l : List Oper} (h : wpMask P ops C K m l a) : wpMask P ops C K (false :: m) (o :: l) a := h
theorem wpMask_want {C : World → Prop} {K : Act → Prop} {m : List Bool} {a : Act} {o : Oper} {l : List Oper} (hw : Region.wanted o (yielded ops a.tmps) = true)
    (h : ∀ K' : Act → Prop, (∀ a', wpMask P ops C K m l a' → K' a') → o.quiet P a C K') : wpMask P ops C K (true :: m) (o :: l) a := by
  unfold wpMask
  rw [if_pos hw]
  exact h _ (fun _ hh => hh)
def places : Nat → List Bool → List Nat
  | _, [] => []
  | k, true :: m => k :: places (k + 1) m
  | k, false :: m => places (k + 1) m
theorem wpSeg_of_mask {C : World → Prop} {K : Act → Prop} : ∀ (m : List Bool) (l : List Oper) (k : Nat) (a : Act), (∀ j, ops[k + j]? = l[j]?) → k + m.length ≤ ops.size → wpMask P ops C K m l a → wpSeg P ops C K (places k m) a
  | [], _, _, _, _, _, h => h
  | b :: m, [], k, a, hl, hm, _ => by
    have := hl 0
    rw [Nat.add_zero, List.getElem?_nil] at this
    have hk : ops.size ≤ k := Array.getElem?_eq_none_iff.1 this
    simp at hm
    omega
  | true :: m, o :: l, k, a, hl, hm, h => by
    have ho : ops[k]? = some o := by have := hl 0; simpa using this
    have hl' : ∀ j, ops[k + 1 + j]? = l[j]? := fun j => by have := hl (j + 1); rw [List.getElem?_cons_succ] at this; rw [← this]; congr 1; omega
    have hm' : k + 1 + m.length ≤ ops.size := by simp at hm; omega
    refine ⟨o, ho, ?_⟩
    unfold wpMask at h
    split
    · rename_i hw
      rw [if_pos hw] at h
      exact Oper.quiet_mono (fun a' h' => wpSeg_of_mask m l (k + 1) a' hl' hm' h') h
    · rename_i hw
      rw [if_neg hw] at h
      exact wpSeg_of_mask m l (k + 1) _ hl' hm' h
  | false :: m, o :: l, k, a, hl, hm, h => by
    have hl' : ∀ j, ops[k + 1 + j]? = l[j]? := fun j => by have := hl (j + 1); rw [List.getElem?_cons_succ] at this; rw [← this]; congr 1; omega
    have hm' : k + 1 + m.length ≤ ops.size := by simp at hm; omega
    exact wpSeg_of_mask m l (k + 1) a hl' hm' h
/-- May the operations 'is' be taken in this order, each before all else that waits? Do they only read? -/
def segOk (ops : Array Oper) : List Nat → Array Bool → Bool
  | [], _ => true
  | i :: is, listed => Region.free .any ops listed i && (Region.ready .any ops listed).contains i && ((ops[i]?).map (plainOp ·.op)).getD false && segOk ops is (listed.setIfInBounds i true)
def marked (listed : Array Bool) (is : List Nat) : Array Bool := is.foldl (fun l i => l.setIfInBounds i true) listed
theorem take_list {C S : World → Prop} (hCS : ∀ w, S w → C w) (hs : Region.noSelect ops = true) (hQ : ∀ c (a : Act) d v w, Q (.panic c) (a.put d v) w → Q (.panic c) a w) :
    ∀ (is : List Nat) (fuel : Nat) (listed : Array Bool) (a : Act) (w : World), segOk ops is listed = true → S w →
      wpSeg P ops C (fun b => wpAnyH P .any ops Q S fuel (marked listed is) b w) is a → wpAnyH P .any ops Q S (fuel + is.length) listed a w
  | [], fuel, listed, a, w, _, _, h => h
  | i :: is, fuel, listed, a, w, hok, hS, ⟨o, ho, h⟩ => by
    simp only [segOk, Bool.and_eq_true] at hok
    obtain ⟨⟨⟨hf, hr⟩, hp⟩, hok'⟩ := hok
    rw [ho] at hp
    simp only [Option.map_some, Option.getD_some] at hp
    rw [List.length_cons, ← Nat.add_assoc]
    by_cases hw : Region.wanted o (yielded ops a.tmps) = true
    · rw [if_pos hw] at h
      obtain ⟨v, hv, hn⟩ := h
      refine wpAnyH_take ho hs hf hr (fun c a w hh => hQ _ _ _ _ _ hh) (v := v) (.inl ⟨hw, fun w' hS' => ?_⟩) hS (take_list hCS hs hQ is fuel _ _ w hok' hS hn)
      have h3 := hv w' (hCS _ hS')
      unfold Oper.quietAt at h3
      cases hrun : (execOp a.eval o).run P w' with
      | halt x w1 => rw [hrun] at h3; exact absurd h3 (by simp [Oper.quietUpon])
      | ok n w1 =>
        obtain ⟨u, rfl⟩ := plain_value hp hrun
        rw [hrun] at h3
        simp only [Oper.quietUpon] at h3
        rw [h3.1, h3.2]
    · rw [if_neg hw] at h
      exact wpAnyH_take ho hs hf hr (fun c a w hh => hQ _ _ _ _ _ hh) (v := undef) (.inr ⟨by simpa using hw, rfl⟩) hS (take_list hCS hs hQ is fuel _ _ w hok' hS h)
theorem wpAnyH_mono {S S' : World → Prop} (hS : ∀ w, S' w → S w) : ∀ (fuel : Nat) (listed : Array Bool) (a : Act) (w : World),
    wpAnyH P .any ops Q S' fuel listed a w → wpAnyH P .any ops Q S fuel listed a w
  | 0, _, _, _, h => h
  | fuel + 1, _, _, _, h => ⟨h.1, fun i hi => wpOp_mono (fun a' w' h' => ⟨hS _ h'.1, wpAnyH_mono hS fuel _ a' w' h'.2⟩) (h.2 i hi)⟩
/-- THE BEGINNING. The region goes on from the world behind the draw. -/
theorem region_begin {T : List Nat} {id : Nat} {a : Act} {w : World} (hm : P.follows .mixedOrders = true)
    (h : wpAnyH P .any ops Q (Only T w.drew) ops.size (Array.replicate ops.size false) a w.drew) : (Code.region id ops true).wp P Q a w := wp_region_held hm h
/-- SOME OPERATIONS THAT ONLY READ. -/
theorem region_seg {T : List Nat} (m : List Bool) {listed : Array Bool} {fuel : Nat} (fuel' : Nat) {a : Act} {w : World} {l : List Oper} (hs : Region.noSelect l.toArray = true) (hm : (decide (m.length ≤ l.length)) = true)
    (hok : segOk l.toArray (places 0 m) listed = true)
    (hf : fuel' + (places 0 m).length = fuel) (hQ : ∀ c (a : Act) d v w, Q (.panic c) (a.put d v) w → Q (.panic c) a w)
    (h : wpMask P l.toArray (fun w' => ∃ x : Later T w, w' = x.w) (fun b => wpAnyH P .any l.toArray Q (Only T w) fuel' (marked listed (places 0 m)) b w) m l a) : wpAnyH P .any l.toArray Q (Only T w) fuel listed a w := by
  subst hf
  refine take_list (fun w' h' => ⟨⟨w', h'⟩, rfl⟩) hs hQ (places 0 m) fuel' listed a w hok (Only.refl _ _) (wpSeg_of_mask m l 0 a (fun j => by simp) ?_ h)
  have := of_decide_eq_true hm
  simpa using this
/-- A CALL of a Go function that returns; nothing else may come up. -/
theorem region_call {T : List Nat} (e : Nat) {listed : Array Bool} {fuel : Nat} {a : Act} {w : World} {o : Oper} {f : FuncId} {args : Array Value} (hr : Region.ready .any ops listed = [e])
    (ho : ops[e]? = some o) (hw : Region.wanted o (yielded ops a.tmps) = true) (hrun : (execOp a.eval o).run P w = .ok (.enter f args) w)
    (hc : Calls P f args w fun x w1 => ∃ v, x = .returned v ∧ Only T w w1 ∧ wpAnyH P .any ops Q (Only T w1) fuel (listed.setIfInBounds e true) (a.put o.dst v) w1) :
    wpAnyH P .any ops Q (Only T w) (fuel + 1) listed a w := by
  refine wpAnyH_all hr (by simp) (fun i hi => ?_)
  simp only [List.mem_singleton] at hi
  subst hi
  unfold wpOp
  simp only [ho, hw, if_true]
  refine .inl ?_
  unfold Oper.wp
  rw [hrun]
  simp only [Oper.upon]
  refine hc.mono ?_
  rintro x w1 ⟨v, rfl, hO, h⟩
  exact ⟨hO, wpAnyH_mono (fun w2 h2 => hO.trans h2) _ _ _ _ h⟩
/-- An operation that MAKES something (or writes to T); nothing else may come up. -/
theorem region_make {T : List Nat} (e : Nat) {listed : Array Bool} {fuel : Nat} {a : Act} {w w1 : World} {o : Oper} {v : Value} (hr : Region.ready .any ops listed = [e])
    (ho : ops[e]? = some o) (hw : Region.wanted o (yielded ops a.tmps) = true) (hrun : (execOp a.eval o).run P w = .ok (.value v) w1) (hO : Only T w w1)
    (h : wpAnyH P .any ops Q (Only T w1) fuel (listed.setIfInBounds e true) (a.put o.dst v) w1) :
    wpAnyH P .any ops Q (Only T w) (fuel + 1) listed a w := by
  refine wpAnyH_all hr (by simp) (fun i hi => ?_)
  simp only [List.mem_singleton] at hi
  subst hi
  unfold wpOp
  simp only [ho, hw, if_true]
  refine .inl ?_
  unfold Oper.wp
  rw [hrun]
  simp only [Oper.upon]
  exact ⟨hO, wpAnyH_mono (fun w2 h2 => hO.trans h2) _ _ _ _ h⟩
/-- A STORE into T, or into what was made; nothing else may come up. -/
theorem region_store {T : List Nat} (e : Nat) {listed : Array Bool} {fuel : Nat} {a : Act} {w w1 : World} {o : Oper} (hr : Region.ready .any ops listed = [e])
    (ho : ops[e]? = some o) (hw : Region.wanted o (yielded ops a.tmps) = true) (hrun : (execOp a.eval o).run P w = .ok .skip w1) (hO : Only T w w1)
    (h : wpAnyH P .any ops Q (Only T w1) fuel (listed.setIfInBounds e true) (a.put o.dst undef) w1) :
    wpAnyH P .any ops Q (Only T w) (fuel + 1) listed a w := by
  refine wpAnyH_all hr (by simp) (fun i hi => ?_)
  simp only [List.mem_singleton] at hi
  subst hi
  unfold wpOp
  simp only [ho, hw, if_true]
  refine .inl ?_
  unfold Oper.wp
  rw [hrun]
  simp only [Oper.upon]
  exact ⟨hO, wpAnyH_mono (fun w2 h2 => hO.trans h2) _ _ _ _ h⟩
/-- THE END. -/
theorem region_end {S : World → Prop} {fuel : Nat} {listed : Array Bool} {a : Act} {w : World} (hr : Region.ready .any ops listed = []) (h : Q .normal a w) : wpAnyH P .any ops Q S fuel listed a w :=
  wpAnyH_done hr h fuel
end

end Go.Proofs.YtpcapmdfjmpdiaaGreatDoor

namespace Go.Proofs.YtpcapmdfjmpdiaaGreatDoor
open Go.RowKit

/-- Blocks that were not there at the start need not be named. -/
theorem Only.shed {S T : List Nat} {w w' : World} (h : Only T w w') (hT : ∀ i, i ∈ T → i ∈ S ∨ w.heap.size ≤ i) : Only S w w' := (Only.refl S w).join h hT
section
variable {P : Program} {ops : Array Oper} {Q : Exit → Act → World → Prop}
/-- One of several that may come up: it makes a value. -/
theorem op_make {T : List Nat} {e : Nat} {listed : Array Bool} {fuel : Nat} {a : Act} {w w1 : World} {o : Oper} {v : Value}
    (ho : ops[e]? = some o) (hw : Region.wanted o (yielded ops a.tmps) = true) (hrun : (execOp a.eval o).run P w = .ok (.value v) w1) (hO : Only T w w1)
    (h : wpAnyH P .any ops Q (Only T w1) fuel (listed.setIfInBounds e true) (a.put o.dst v) w1) :
    wpOp P ops Q e (fun a' w' => Only T w w' ∧ wpAnyH P .any ops Q (Only T w) fuel (listed.setIfInBounds e true) a' w') a w := by
  unfold wpOp
  simp only [ho, hw, if_true]
  refine .inl ?_
  unfold Oper.wp
  rw [hrun]
  simp only [Oper.upon]
  exact ⟨hO, wpAnyH_mono (fun w2 h2 => hO.trans h2) _ _ _ _ h⟩
theorem exec_append {w w' : World} {s x : Operand} {t : TypeId} {o : Oper} {a : Act} {v v' : Value} {A : Option Addr} {m c : Nat} (ho : o.op = .call { callee := .builtin .append, args := #[s, x], argTypes := #[t, t] })
    (hs : a.eval s = v) (hx : a.eval x = .slice A m c) (hrun : (Builtin.append_ #[t, t] o.type #[v, .slice A m c]).run P w = .ok v' w') : (execOp a.eval o).run P w = .ok (.value v') w' := by
  unfold execOp
  simp only [ho, resolve, invoke, builtin, Sem.run_bind, Sem.run_pure, Result.andThen_ok, List.map_toArray, List.map_cons, List.map_nil, hs, hx, hrun]
end

end Go.Proofs.YtpcapmdfjmpdiaaGreatDoor
