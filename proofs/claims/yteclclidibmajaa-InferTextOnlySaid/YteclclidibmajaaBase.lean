/-
  Plain facts on blocks, worlds and lists of bytes: no program is imported here.
-/
import Derived.WalkKit
import Derived.WalkSpells
import Derived.WalkLawsBesides
import Derived.Laws.CopyOwn
import Derived.Laws.Rows
import Derived.Lib.Hide
import Derived.Maps.AppendAt
import Derived.Laws.BitsAllLaws
import Derived.OwnWalk
import Derived.Deep.Draws
import Derived.Lib.SlBytesConst
import Derived.Laws.IdiomStrings
import Derived.Laws.BytesString
namespace Go.Proofs.Yteclclidibmajaa
open Go.RowKit

/-! ### Blocks known whole -/
/-- Block g is just the cells cs, of element type t, none of them frozen. -/
def Blk (w : World) (g : Nat) (t : TypeId) (cs : List Value) : Prop := w.heap[g]? = some (.cells cs.toArray t (0, 0))

section
variable {w w' : World} {g : Nat} {t : TypeId} {cs : List Value}
theorem Blk.lt (h : Blk w g t cs) : g < w.heap.size := by
  unfold Blk at h
  exact (Array.getElem?_eq_some_iff.1 h).1
theorem Blk.cell (h : Blk w g t cs) (i : Nat) : w.cell? ⟨g, i, none⟩ = cs[i]? := by
  unfold Blk at h
  simp [World.cell?, h]
theorem Blk.free (h : Blk w g t cs) (i : Nat) : w.frozen? ⟨g, i, none⟩ = false := by
  unfold Blk at h
  simp [World.frozen?, h]
theorem Blk.new (w : World) (t : TypeId) (cs : List Value) : Blk (w.alloc (.cells cs.toArray t)) w.heap.size t cs := heap_alloc_new w _
theorem Blk.alloc (h : Blk w g t cs) (o : Obj) : Blk (w.alloc o) g t cs := (Below.heap_alloc w o g h.lt).trans h
theorem Blk.drew (h : Blk w g t cs) : Blk w.drew g t cs := h
theorem Blk.drewN (h : Blk w g t cs) (n : Nat) : Blk (w.drewN n) g t cs := h
theorem Blk.set_ (h : Blk w g t cs) (i : Nat) (u : Value) : Blk (w.setCell ⟨g, i, none⟩ u) g t (cs.set i u) := by
  unfold Blk at h ⊢
  simp [World.setCell, Array.getElem?_modify, h]
theorem Blk.far (h : Blk w g t cs) {p : Addr} (hp : g ≠ p.block) (u : Value) : Blk (w.setCell p u) g t cs := (Below.heap_setCell w p u g hp).trans h
theorem Blk.ne_ {g' : Nat} {t' : TypeId} {cs' : List Value} (h : Blk w g t cs) (h' : Blk w g' t' cs') (hne : t ≠ t') : g ≠ g' := by
  rintro rfl
  unfold Blk at h h'
  rw [h] at h'
  injection h' with h'
  injection h' with _ ht
  exact hne ht
theorem Blk.same_ {t' : TypeId} {cs' : List Value} (h : Blk w g t cs) (h' : Blk w g t' cs') : cs = cs' := by
  unfold Blk at h h'
  rw [h] at h'
  injection h' with h'
  injection h' with h1
  simpa using h1
end

/-! ### What a call may have turned -/
/-- Of the blocks that were there, at most those of S have turned; streams and tape are as they were. -/
structure Only (S : List Nat) (w w' : World) : Prop where
  os : w'.os = w.os
  tape : w'.tape = w.tape
  output : w'.output = w.output
  size : w.heap.size ≤ w'.heap.size
  block : ∀ k, k < w.heap.size → k ∉ S → w'.heap[k]? = w.heap[k]?

theorem Only.refl (S : List Nat) (w : World) : Only S w w := ⟨rfl, rfl, rfl, Nat.le_refl _, fun _ _ _ => rfl⟩
theorem Only.trans {S : List Nat} {a b c : World} (h : Only S a b) (k : Only S b c) : Only S a c :=
  ⟨k.os.trans h.os, k.tape.trans h.tape, k.output.trans h.output, Nat.le_trans h.size k.size,
   fun i hi hn => (k.block i (Nat.lt_of_lt_of_le hi h.size) hn).trans (h.block i hi hn)⟩
theorem Only.more {S T : List Nat} {w w' : World} (h : Only S w w') (hST : ∀ k, k ∈ S → k ∈ T) : Only T w w' :=
  ⟨h.os, h.tape, h.output, h.size, fun k hk hn => h.block k hk (fun hs => hn (hST k hs))⟩
/-- Blocks that were not yet there at the start need not be named. -/
theorem Only.join {S T : List Nat} {a b c : World} (h : Only S a b) (k : Only T b c) (hT : ∀ i, i ∈ T → i ∈ S ∨ a.heap.size ≤ i) : Only S a c :=
  ⟨k.os.trans h.os, k.tape.trans h.tape, k.output.trans h.output, Nat.le_trans h.size k.size,
   fun i hi hn => (k.block i (Nat.lt_of_lt_of_le hi h.size) (fun ht => by rcases hT i ht with h1 | h1; exact hn h1; omega)).trans (h.block i hi hn)⟩
theorem Only.drew {S : List Nat} {a w : World} (h : Only S a w) : Only S a w.drew := ⟨h.os, h.tape, h.output, h.size, h.block⟩
theorem Only.drewN {S : List Nat} {a w : World} (h : Only S a w) (n : Nat) : Only S a (w.drewN n) := ⟨h.os, h.tape, h.output, h.size, h.block⟩
theorem Only.alloc {S : List Nat} {a w : World} (h : Only S a w) (o : Obj) : Only S a (w.alloc o) :=
  h.trans ⟨rfl, rfl, rfl, by simp, fun k hk _ => Below.heap_alloc _ _ _ hk⟩
theorem Only.setCell {S : List Nat} {a w : World} (h : Only S a w) {p : Addr} (hp : p.block ∈ S ∨ a.heap.size ≤ p.block) (u : Value) : Only S a (w.setCell p u) :=
  ⟨h.os, h.tape, h.output, by simpa [World.setCell] using h.size,
   fun k hk hn => (Below.heap_setCell _ _ _ _ (by rintro rfl; rcases hp with hp | hp; exact hn hp; omega)).trans (h.block k hk hn)⟩
theorem Only.grown {S : List Nat} {a w w' : World} {row : Option Nat} (h : Only S a w) (hg : w.grownBy w' row) (hr : ∀ k, row = some k → k ∈ S ∨ a.heap.size ≤ k) : Only S a w' :=
  ⟨hg.os.trans h.os, hg.tape.trans h.tape, hg.output.trans h.output, Nat.le_trans h.size hg.size,
   fun k hk hn => (hg.block k (Nat.lt_of_lt_of_le hk h.size) (fun e => by rcases hr k e.symm with h1 | h1; exact hn h1; omega)).trans (h.block k hk hn)⟩
theorem Only.of_below {S : List Nat} {B : Nat} {a w : World} (h : Below B a w) (hB : ∀ k, k < a.heap.size → k ∉ S → k < B) : Only S a w :=
  ⟨h.os, h.tape, h.output, h.size, fun k hk hn => h.block k (hB k hk hn)⟩
theorem Only.below {S : List Nat} {B : Nat} {a w w' : World} (hb : Below B a w) (h : Only S w w') (hB : B ≤ w.heap.size) (hS : ∀ k, k ∈ S → B ≤ k) : Below B a w' :=
  hb.trans ⟨h.os, h.tape, h.output, h.size, fun k hk => h.block k (Nat.lt_of_lt_of_le hk hB) (fun hs => by have := hS k hs; omega)⟩
theorem Only.to_below {B : Nat} {w w' : World} {S : List Nat} (h : Only S w w') (hB : B ≤ w.heap.size) (hS : ∀ k, k ∈ S → B ≤ k) : Below B w w' :=
  Only.below (Below.refl _ _) h hB hS
theorem Blk.only {w w' : World} {g : Nat} {t : TypeId} {cs : List Value} {S : List Nat} (h : Blk w g t cs) (k : Only S w w') (hg : g ∉ S) : Blk w' g t cs := (k.block g h.lt hg).trans h
theorem Blk.below {w w' : World} {g : Nat} {t : TypeId} {cs : List Value} {B : Nat} (h : Blk w g t cs) (k : Below B w w') (hg : g < B) : Blk w' g t cs := (k.block g hg).trans h
theorem Blk.grown {w w' : World} {g : Nat} {t : TypeId} {cs : List Value} {row : Option Nat} (h : Blk w g t cs) (k : w.grownBy w' row) (hg : some g ≠ row) : Blk w' g t cs := (k.block g h.lt hg).trans h

/-! ### Bytes -/
/-- A byte as a value; a list of bytes as cells. -/
def vb (c : UInt8) : Value := .int .u8 c.toNat
def vbs (l : List UInt8) : List Value := l.map vb
theorem vbs_length (l : List UInt8) : (vbs l).length = l.length := by simp [vbs]
theorem vbs_getElem? (l : List UInt8) (i : Nat) : (vbs l)[i]? = (l[i]?).map vb := by simp [vbs]
theorem vbs_append (a b : List UInt8) : vbs (a ++ b) = vbs a ++ vbs b := by simp [vbs]
theorem vbs_take (a : List UInt8) (n : Nat) : vbs (a.take n) = (vbs a).take n := by simp [vbs]
theorem vbs_drop (a : List UInt8) (n : Nat) : vbs (a.drop n) = (vbs a).drop n := by simp [vbs]
theorem vbs_set (a : List UInt8) (i : Nat) (c : UInt8) : (vbs a).set i (vb c) = vbs (a.set i c) := by simp [vbs, List.map_set]
theorem vbs_one (l : List UInt8) : ∀ v ∈ vbs l, v.oneCell' = true := by
  intro v hv
  simp only [vbs, List.mem_map] at hv
  obtain ⟨c, _, rfl⟩ := hv
  rfl
theorem vbs_inj {a b : List UInt8} (h : vbs a = vbs b) : a = b := by
  have := List.map_inj_right (f := vb) (fun x y hxy => by
    simp only [vb, Value.int.injEq, true_and] at hxy
    exact UInt8.toNat.inj (by exact_mod_cast hxy)) |>.1 h
  exact this

theorem block_add (a : Addr) (n : Nat) : (a.add n).block = a.block := by unfold Addr.add; split <;> rfl
theorem add_add (a : Addr) (i j : Nat) : (a.add i).add j = a.add (i + j) := by
  unfold Addr.add
  by_cases hi : i = 0 <;> by_cases hj : j = 0 <;> simp [hi, hj, Nat.add_assoc]
theorem add_at (b o i : Nat) : (⟨b, o, none⟩ : Addr).add i = ⟨b, o + i, none⟩ := by
  unfold Addr.add
  by_cases hi : i = 0 <;> simp [hi]

/-- The slice '.slice A n _' reads as the cells xs, all of them below block number B. -/
def Reads (w : World) (B : Nat) (A : Option Addr) (n : Nat) (xs : List Value) : Prop :=
  xs.length = n ∧ (0 < n → ∃ ad, A = some ad ∧ ad.block < B ∧ ∀ j u, xs[j]? = some u → w.cell? (ad.add j) = some u)

section
variable {w w' : World} {B B' n : Nat} {A : Option Addr} {xs : List Value}
theorem Reads.keep (h : Reads w B A n xs) (hk : ∀ ad, A = some ad → ad.block < B → w'.heap[ad.block]? = w.heap[ad.block]?) : Reads w' B A n xs :=
  ⟨h.1, fun hn => by
    obtain ⟨ad, e, hb, hc⟩ := h.2 hn
    exact ⟨ad, e, hb, fun j u hu => (World.cell?_of_block (by rw [block_add]; exact hk ad e hb)).trans (hc j u hu)⟩⟩
theorem Reads.below (h : Reads w B A n xs) (hb : Below B w w') : Reads w' B A n xs := h.keep fun _ _ hp => hb.block _ hp
theorem Reads.only {S : List Nat} (h : Reads w B A n xs) (ho : Only S w w') (hB : B ≤ w.heap.size) (hS : ∀ k, k ∈ S → B ≤ k) : Reads w' B A n xs :=
  h.keep fun _ _ hp => ho.block _ (by omega) (fun hs => by have := hS _ hs; omega)
theorem Reads.more (h : Reads w B A n xs) (hB : B ≤ B') : Reads w B' A n xs :=
  ⟨h.1, fun hn => by
    obtain ⟨ad, e, hb, hc⟩ := h.2 hn
    exact ⟨ad, e, by omega, hc⟩⟩
theorem Reads.none_ : Reads w B A 0 [] := ⟨rfl, fun h => absurd h (by omega)⟩
theorem Reads.of_blk {g : Nat} {t : TypeId} {cs : List Value} (h : Blk w g t cs) (o m : Nat) (hm : o + m ≤ cs.length) (hB : g < B) :
    Reads w B (some ⟨g, o, none⟩) m ((cs.drop o).take m) := by
  refine ⟨by simp; omega, fun _ => ⟨_, rfl, hB, fun j u hu => ?_⟩⟩
  rw [add_at, h.cell]
  rw [List.getElem?_take] at hu
  split at hu
  · simpa using hu
  · cases hu
/-- A cut 's[k:m]': at its end the model keeps the old address. -/
theorem Reads.cut (h : Reads w B A n xs) {k m : Nat} (hk : k ≤ m) (hm : m ≤ n) {c : Prop} [Decidable c] (hc : c → k = m) :
    Reads w B (if c then A else A.map (·.add k)) (m - k) ((xs.drop k).take (m - k)) := by
  refine ⟨by simp; have := h.1; omega, fun hn => ?_⟩
  obtain ⟨ad, rfl, hb, hcell⟩ := h.2 (by omega)
  rw [if_neg (fun hh => by have := hc hh; omega)]
  refine ⟨ad.add k, rfl, by rw [block_add]; exact hb, fun j u hu => ?_⟩
  rw [add_add]
  refine hcell _ u ?_
  rw [List.getElem?_take] at hu
  split at hu
  · simpa using hu
  · cases hu
end

/-- The address of a slice that is not empty, written out. -/
theorem Reads.plain {w : World} {B n : Nat} {A : Option Addr} {xs : List Value} (h : Reads w B A n xs) (hn : 0 < n) :
    ∃ g o, A = some ⟨g, o, none⟩ ∧ g < B ∧ ∀ j u, xs[j]? = some u → w.cell? ⟨g, o + j, none⟩ = some u := by
  obtain ⟨⟨g, o, spot⟩, e, hb, hc⟩ := h.2 hn
  have h0 := hc 0 _ (List.getElem?_eq_getElem (show 0 < xs.length by rw [h.1]; exact hn))
  have hs : spot = none := by
    have := World.cell?_spot h0
    simpa [Addr.add] using this
  subst hs
  exact ⟨g, o, e, hb, fun j u hu => by rw [← add_at]; exact hc j u hu⟩

theorem wf_u8 {z : Int} (h : (Lit.int .u8 z).wf = true) : 0 ≤ z ∧ z ≤ 255 := by
  simp [Lit.wf, IntKind.min, IntKind.max, IntKind.signed, IntKind.bits] at h
  omega
/-- Numbers that fit a byte are bytes. -/
theorem bytes_of_wf : ∀ zs : List Int, (∀ n ∈ zs, (Lit.int .u8 n).wf = true) → ∃ l : List UInt8, zs.map (Value.int .u8) = vbs l ∧ l.length = zs.length
  | [], _ => ⟨[], rfl, rfl⟩
  | z :: zs, h => by
    obtain ⟨l, hl, hn⟩ := bytes_of_wf zs (fun n hn => h n (List.mem_cons_of_mem _ hn))
    obtain ⟨h0, h1⟩ := wf_u8 (h z (List.mem_cons_self ..))
    refine ⟨UInt8.ofNat z.toNat :: l, ?_, by simp [hn]⟩
    have hz : ((UInt8.ofNat z.toNat).toNat : Int) = z := by
      rw [UInt8.toNat_ofNat']
      omega
    simp only [List.map_cons, hl, vbs, vb, hz]

/-- WHAT THE WALK IS TOLD OF A []byte THAT CAME IN, as the shells have it, in one word: it reads as some bytes. -/
theorem reads_of_row {w : World} {a : Option Addr} {len cap : Nat} {zs : List Int}
    (h : (a = none ∧ len = 0 ∧ cap = 0 ∧ zs = []) ∨
      ∃ x, a = some x ∧ len ≤ cap ∧ cap ≤ maxLen ∧ zs.length = cap ∧ (∀ i, i < zs.length → w.cell? (x.add i) = some (.int .u8 (zs.getD i 0))) ∧ ∀ n ∈ zs, (Lit.int .u8 n).wf = true) :
    ∃ l : List UInt8, l.length = len ∧ len ≤ cap ∧ cap ≤ maxLen ∧ Reads w w.heap.size a len (vbs l) := by
  rcases h with ⟨rfl, rfl, rfl, rfl⟩ | ⟨x, rfl, hl, hm, hz, hc, hw⟩
  · exact ⟨[], rfl, Nat.le_refl _, Nat.zero_le _, Reads.none_⟩
  · obtain ⟨l, he, hn⟩ := bytes_of_wf zs hw
    have hcell : ∀ j u, (vbs l)[j]? = some u → w.cell? (x.add j) = some u := by
      intro j u hu
      rw [← he] at hu
      simp only [List.getElem?_map, Option.map_eq_some_iff] at hu
      obtain ⟨z, hz1, rfl⟩ := hu
      have hj : j < zs.length := (List.getElem?_eq_some_iff.1 hz1).1
      rw [hc j hj]
      simp [hz1]
    refine ⟨l.take len, by simp; omega, hl, hm, by rw [vbs_length]; simp; omega, fun hp => ⟨x, rfl, ?_, fun j u hu => ?_⟩⟩
    · have h0 := hc 0 (by omega)
      have hb : x.block < w.heap.size := by
        have : (w.cell? (x.add 0)).isSome := by rw [h0]; rfl
        simp only [World.cell?] at this
        rw [block_add] at this
        split at this
        · rename_i hh; exact (Array.getElem?_eq_some_iff.1 hh).1
        · simp at this
      exact hb
    · rw [vbs_take, List.getElem?_take] at hu
      split at hu
      · exact hcell j u hu
      · cases hu

theorem Reads.only' {w w' : World} {B n : Nat} {A : Option Addr} {xs : List Value} {S : List Nat} (h : Reads w B A n xs) (ho : Only S w w') (hB : B ≤ w.heap.size)
    (hS : 0 < n → ∀ ad, A = some ad → ad.block ∉ S) : Reads w' B A n xs :=
  ⟨h.1, fun hn => by
    obtain ⟨ad, e, hb, hc⟩ := h.2 hn
    exact ⟨ad, e, hb, fun j u hu => (World.cell?_of_block (by rw [block_add]; exact ho.block _ (by omega) (hS hn ad e))).trans (hc j u hu)⟩⟩

/-! ### Bytes and strings -/
/-- 'string(b)'. -/
theorem run_string_of {P : Program} {w : World} {src dst e : TypeId} (hs : P.underlying src = some (.slice e)) (he : P.underlying e = some (.int .u8)) (hd : P.underlying dst = some .string)
    {B n : Nat} {A : Option Addr} {l : List UInt8} (h : Reads w B A n (vbs l)) (c : Nat) :
    (convert src dst (.slice A n c)).run P w = .ok (.string ⟨l.toArray⟩) w := by
  have hl : l.length = n := by have := h.1; rwa [vbs_length] at this
  subst hl
  rcases A with _ | ad
  · have h0 : l.length = 0 := by
      rcases Nat.eq_zero_or_pos l.length with h0 | h0
      · exact h0
      · obtain ⟨_, e1, _⟩ := h.2 h0
        cases e1
    have : l = [] := List.eq_nil_of_length_eq_zero h0
    subst this
    rw [run_convert_bytes_string w src dst e none _ c hs he hd]
    rfl
  · refine run_convert_bytes_back w src dst e ad c l hs he hd (fun j hj => ?_)
    obtain ⟨ad', e1, _, hc⟩ := h.2 (by omega)
    injection e1 with e1
    subst e1
    exact hc j _ (by rw [vbs_getElem?, List.getElem?_eq_getElem hj]; rfl)
/-- A row that was just laid, marked or not. -/
theorem Reads.fresh (w : World) (l : List UInt8) (C : Array Value) (hC : C = (vbs l).toArray) (t : TypeId) (fr : Nat × Nat) (B : Nat) (hB : w.heap.size < B) :
    Reads (w.alloc (.cells C t fr)) B (some ⟨w.heap.size, 0, none⟩) l.length (vbs l) := by
  subst hC
  refine ⟨vbs_length l, fun _ => ⟨_, rfl, hB, fun j u hu => ?_⟩⟩
  rw [add_at, World.cell?_alloc_mark]
  simpa using hu

/-! ### min and max of two, without a split -/
def imin (x y : Int) : Int := if y < x then y else x
def imax (x y : Int) : Int := if x < y then y else x
theorem imin_spec (x y : Int) : (imin x y = x ∧ x ≤ y) ∨ (imin x y = y ∧ y < x) := by unfold imin; split <;> omega
theorem imax_spec (x y : Int) : (imax x y = x ∧ y ≤ x) ∨ (imax x y = y ∧ x < y) := by unfold imax; split <;> omega
theorem run_min2 {P : Program} (w : World) (ts : Array TypeId) (t : TypeId) (k k' : IntKind) (x y : Int) : (Builtin.min_ ts t #[.int k x, .int k' y]).run P w = .ok (.int k (imin x y)) w :=
  run_min_int2 w ts t k k' x y
theorem run_max2 {P : Program} (w : World) (ts : Array TypeId) (t : TypeId) (k k' : IntKind) (x y : Int) : (Builtin.max_ ts t #[.int k x, .int k' y]).run P w = .ok (.int k (imax x y)) w :=
  run_max_int2 w ts t k k' x y

/-! ### A cut of a slice, without a split on its end -/
/-- The address of 's[l:]' of a slice of capacity m, elements of s cells: at its end the model keeps the old address. -/
def cutA (m l s : Nat) (a : Option Addr) : Option Addr := if m = l then a else a.map (·.add (l * s))
theorem sliced_cut (a : Option Addr) (l h m s : Nat) : sliced a l h m s = .slice (cutA m l s a) (h - l) (m - l) := rfl
theorem cutA_zero (m s : Nat) (a : Option Addr) : cutA m 0 s a = a := by
  unfold cutA
  split
  · rfl
  · cases a
    · rfl
    · simp [Addr.add]
theorem cutA_some {m l : Nat} (b o : Nat) (h : m ≠ l) : cutA m l 1 (some ⟨b, o, none⟩) = some ⟨b, o + l, none⟩ := by
  unfold cutA
  rw [if_neg h]
  simp [add_at]
theorem Reads.cut_ {w : World} {B n : Nat} {A : Option Addr} {xs : List Value} (h : Reads w B A n xs) {k m c : Nat} (hk : k ≤ m) (hm : m ≤ n) (hc : n ≤ c) :
    Reads w B (cutA c k 1 A) (m - k) ((xs.drop k).take (m - k)) := by
  have := h.cut hk hm (c := c = k) (fun e => by omega)
  simpa [cutA] using this

/-! ### The builtin copy, with a frame that names the one block -/
section
variable {P : Program} {w : World} {ops : Array Oper} {rest : List Oper} {o : Oper} {a : Act} {Q : Exit → Act → World → Prop}
theorem only_setRow (w : World) (g : Nat) (cs : Array Value) : Only [g] w (w.setRow g cs) :=
  ⟨rfl, rfl, rfl, by simp [World.setRow], fun k _ hn => setRow_other w g k cs (by simpa using hn)⟩
/-- Where anything is copied at all, it goes to place off of block g, and the cells cs are read. -/
def CopyFits (w : World) (dp : Option Addr) (g off : Nat) (sp : Option Addr) (cs : List Value) : Prop :=
  0 < cs.length → dp = some ⟨g, off, none⟩ ∧ ∃ ad, sp = some ad ∧ ∀ j v, cs[j]? = some v → w.cell? (ad.add j) = some v
theorem wp_copy (hgd : o.guard = none) (d s : Operand) (dT sT : TypeId)
    (ho : o.op = .call { callee := .builtin .copy, args := #[d, s], argTypes := #[dT, sT] }) (elem : TypeId) (hu : P.underlying dT = some (.slice elem)) (hsz : (P.info? elem).map (·.size) = some 1)
    (dp sp : Option Addr) (dLen dCap sLen sCap : Nat) (hd : a.eval d = .slice dp dLen dCap) (hs : a.eval s = .slice sp sLen sCap)
    (g off : Nat) (cur : List Value) (t : TypeId) (hg : Blk w g t cur) (cs : List Value) (hn : cs.length = Nat.min sLen dLen)
    (hpos : CopyFits w dp g off sp cs)
    (hfit : off + cs.length ≤ cur.length) (h1 : ∀ v ∈ cs, v.oneCell' = true)
    (h : ∀ w', Hid (Blk w' g t (splice cur off cs)) → Hid (w'.heap.size = w.heap.size) → Only [g] w w' → wpList P ops Q rest (a.put o.dst (goInt cs.length)) w') :
    wpList P ops Q (o :: rest) a w := by
  by_cases h0 : cs.length = 0
  · obtain rfl : cs = [] := List.eq_nil_of_length_eq_zero h0
    refine wpList_copy_nothing hgd d s dT sT ho elem hu hsz dp sp dLen dCap sLen sCap hd hs (by simpa using hn.symm) ?_
    exact h w (show Blk _ _ _ _ by simpa [splice] using hg) rfl (Only.refl _ _)
  · obtain ⟨rfl, ad, rfl, hsrc⟩ := hpos (by omega)
    refine wpList_copy_own hgd d s dT sT ho elem hu hsz g off dLen dCap ad sLen sCap hd hs cur.toArray t hg cs hn hsrc (by simpa using hfit) h1 ?_
    exact h _ (show Blk _ _ _ _ by simpa [splice, Blk] using setRow_heap w g _ _ t _ hg) (show _ = _ by simp [World.setRow]) (only_setRow _ _ _)
end

/-! ### append onto a row of the call's own, whatever the source -/
section
variable {P : Program} {w : World}
theorem run_append {base : Nat} {t e : TypeId} (ty : TypeId) {i : TypeInfo} {z : Value} {bytes : Nat} (ht : P.underlying t = some (.slice e)) (hi : P.info? e = some i) (hz : i.zero = some z)
    (hsize : i.size = 1) (hby : i.bytes = bytes) (hzs : z.cells.size = 1) {v : Value} {n : Nat} {xs : List Value} (hown : w.ownsRow base e 1 v n xs)
    {B : Nat} {A : Option Addr} {m : Nat} (c : Nat) {news : List Value} (hr : Reads w B A m news) (h1 : ∀ u ∈ news, u.oneCell' = true)
    (h63 : n + m ≤ maxLen) (hbytes : (n + m) * bytes ≤ 140737488355328) (hbase : base ≤ w.heap.size) :
    ∃ v' w', (Builtin.append_ #[t, t] ty #[v, .slice A m c]).run P w = .ok v' w' ∧ w'.ownsRow base e 1 v' (n + m) (xs ++ news) ∧ w.grownBy w' v.ownBlock ∧ (v'.ownBlock = v.ownBlock ∨ v'.ownBlock = some w.heap.size) := by
  rcases A with _ | ad
  · have hm : m = 0 := by
      rcases Nat.eq_zero_or_pos m with h0 | h0
      · exact h0
      · obtain ⟨_, e1, _⟩ := hr.2 h0
        cases e1
    subst hm
    have hn : news = [] := List.eq_nil_of_length_eq_zero hr.1
    subst hn
    refine ⟨v, w, ?_, by simpa using hown, World.grownBy.refl w _, .inl rfl⟩
    rcases hown.2 with ⟨rfl, rfl⟩ | ⟨g, cap, cur, rfl, _, _, hnc, _⟩
    · simp [Builtin.append_, run_underlying ht, sizeOf, typeInfo, hi, Builtin.lenOf, Builtin.firstCells]
    · simp [Builtin.append_, run_underlying ht, sizeOf, typeInfo, hi, Builtin.lenOf, Builtin.firstCells, hnc, storeCells]
  · have hcells : ∀ j u, news[j]? = some u → w.cell? (ad.add j) = some u := by
      intro j u hu
      rcases Nat.eq_zero_or_pos m with h0 | h0
      · subst h0
        have hn : news = [] := List.eq_nil_of_length_eq_zero hr.1
        subst hn
        simp at hu
      · obtain ⟨ad', e1, _, hc⟩ := hr.2 h0
        injection e1 with e1
        subst e1
        exact hc j u hu
    obtain ⟨v', w', hrun, h2, h3, _, h5⟩ := run_append_own_at (P := P) w base t ty e i z 1 bytes ht hi hz hsize hby hzs (by omega) v n xs hown ad m c news (by rw [hr.1, Nat.mul_one]) hcells h1 h63 hbytes hbase
    exact ⟨v', w', hrun, h2, h3, h5⟩
variable {ops : Array Oper} {rest : List Oper} {o : Oper} {a : Act} {Q : Exit → Act → World → Prop}
theorem wp_append (hgd : o.guard = none) (s x : Operand) (t : TypeId) (ho : o.op = .call { callee := .builtin .append, args := #[s, x], argTypes := #[t, t] })
    (base : Nat) (e : TypeId) (i : TypeInfo) (z : Value) (bytes : Nat) (ht : P.underlying t = some (.slice e)) (hi : P.info? e = some i) (hz : i.zero = some z)
    (hsize : i.size = 1) (hby : i.bytes = bytes) (hzs : z.cells.size = 1) (v : Value) (n : Nat) (xs : List Value) (hs : a.eval s = v) (hown : w.ownsRow base e 1 v n xs)
    (B : Nat) (A : Option Addr) (m c : Nat) (news : List Value) (hx : a.eval x = .slice A m c) (hr : Reads w B A m news) (h1 : ∀ u ∈ news, u.oneCell' = true)
    (h63 : n + m ≤ maxLen) (hbytes : (n + m) * bytes ≤ 140737488355328) (hbase : base ≤ w.heap.size)
    (h : ∀ v' w', Hid (w'.ownsRow base e 1 v' (n + m) (xs ++ news)) → w.grownBy w' v.ownBlock → Hid (v'.ownBlock = v.ownBlock ∨ v'.ownBlock = some w.heap.size) → wpList P ops Q rest (a.put o.dst v') w') :
    wpList P ops Q (o :: rest) a w := by
  refine wpList_plain hgd fun K hK => ?_
  obtain ⟨v', w', hrun, h2, h3, h4⟩ := run_append (P := P) o.type ht hi hz hsize hby hzs hown c hr h1 h63 hbytes hbase
  unfold Oper.wp execOp
  simp only [ho, resolve, invoke, builtin, Sem.run_bind, Sem.run_pure, Result.andThen_ok, List.map_toArray, List.map_cons, List.map_nil, hs, hx, hrun]
  exact hK _ _ (h v' w' h2 h3 h4)
end
/-- What is owned reads as what it is. -/
theorem Reads.of_own {w : World} {base : Nat} {e : TypeId} {v : Value} {n : Nat} {xs : List Value} (h : w.ownsRow base e 1 v n xs) : ∃ A c, v = .slice A n c ∧ n ≤ c ∧ c ≤ maxLen ∧ Reads w w.heap.size A n xs ∧
    (∀ g, A = some g → g = ⟨g.block, 0, none⟩ ∧ base ≤ g.block ∧ v.ownBlock = some g.block ∧ ∃ cur : List Value, Blk w g.block e cur ∧ cur.length = c ∧ cur.take n = xs) ∧ (A = none → n = 0) := by
  obtain ⟨hl, h2⟩ := h
  rw [Nat.mul_one] at hl
  rcases h2 with ⟨rfl, rfl⟩ | ⟨g, cap, cur, rfl, hb, hg, hnc, hcm, hcs, htk⟩
  · have : xs = [] := List.eq_nil_of_length_eq_zero hl
    subst this
    exact ⟨none, 0, rfl, Nat.le_refl _, Nat.zero_le _, Reads.none_, (fun g hg => by cases hg), (fun _ => rfl)⟩
  · rw [Nat.mul_one] at htk hcs
    have hblk : Blk w g e cur.toList := by simpa [Blk] using hg
    refine ⟨some ⟨g, 0, none⟩, cap, rfl, hnc, hcm, ⟨hl, fun _ => ⟨_, rfl, hblk.lt, fun j u hu => ?_⟩⟩, fun g' hg' => ?_, fun h => by cases h⟩
    · rw [add_at, hblk.cell, Nat.zero_add]
      rw [← htk, List.getElem?_take] at hu
      split at hu
      · exact hu
      · cases hu
    · injection hg' with hg'
      subst hg'
      exact ⟨rfl, hb, rfl, cur.toList, hblk, by simpa using hcs, htk⟩
theorem own_only {w w' : World} {base : Nat} {e : TypeId} {v : Value} {n : Nat} {xs : List Value} {S : List Nat} (h : w.ownsRow base e 1 v n xs) (k : Only S w w') (hS : ∀ g, base ≤ g → g < w.heap.size → g ∉ S) :
    w'.ownsRow base e 1 v n xs := by
  refine ⟨h.1, ?_⟩
  rcases h.2 with h2 | ⟨g, cap, cur, hv, hb, hg, r⟩
  · exact .inl h2
  · have hlt := (Array.getElem?_eq_some_iff.1 hg).1
    exact .inr ⟨g, cap, cur, hv, hb, by rw [k.block g hlt (hS g hb hlt)]; exact hg, r⟩
/-- The block that an append may turn, as a list. -/
theorem own_set {w : World} {base : Nat} {e : TypeId} {v : Value} {n : Nat} {xs : List Value} (h : w.ownsRow base e 1 v n xs) :
    ∃ T : List Nat, (∀ k, v.ownBlock = some k → k ∈ T) ∧ (∀ k, k ∈ T → base ≤ k ∧ k < w.heap.size) := by
  cases hv : v.ownBlock with
  | none => exact ⟨[], (fun k hk => by cases hk), (fun k hk => by cases hk)⟩
  | some g =>
    have hlt := h.lt g hv
    exact ⟨[g], (fun k hk => by injection hk with hk; simp [hk]), (fun k hk => by simp at hk; subst hk; exact hlt)⟩
/-- 'wp_append', the new slice written out. -/
theorem wp_append' {P : Program} {w : World} {ops : Array Oper} {rest : List Oper} {o : Oper} {a : Act} {Q : Exit → Act → World → Prop} (hgd : o.guard = none) (s x : Operand) (t : TypeId) (ho : o.op = .call { callee := .builtin .append, args := #[s, x], argTypes := #[t, t] })
    (base : Nat) (e : TypeId) (i : TypeInfo) (z : Value) (bytes : Nat) (ht : P.underlying t = some (.slice e)) (hi : P.info? e = some i) (hz : i.zero = some z)
    (hsize : i.size = 1) (hby : i.bytes = bytes) (hzs : z.cells.size = 1) (v : Value) (n : Nat) (xs : List Value) (hs : a.eval s = v) (hown : w.ownsRow base e 1 v n xs)
    (B : Nat) (A : Option Addr) (m c : Nat) (news : List Value) (hx : a.eval x = .slice A m c) (hr : Reads w B A m news) (h1 : ∀ u ∈ news, u.oneCell' = true)
    (h63 : n + m ≤ maxLen) (hbytes : (n + m) * bytes ≤ 140737488355328) (hbase : base ≤ w.heap.size) (N : Nat) (hN : N = n + m)
    (h : ∀ A' c' w', Hid (w'.ownsRow base e 1 (.slice A' N c') N (xs ++ news)) → w.grownBy w' v.ownBlock → wpList P ops Q rest (a.put o.dst (.slice A' N c')) w') :
    wpList P ops Q (o :: rest) a w := by
  subst hN
  refine wp_append hgd s x t ho base e i z bytes ht hi hz hsize hby hzs v n xs hs hown B A m c news hx hr h1 h63 hbytes hbase ?_
  intro v' w' hv hg _
  obtain ⟨A', c', rfl, _⟩ := Reads.of_own hv.out
  exact h A' c' w' hv hg
/-- A row of the call's own that is known whole is owned. -/
theorem own_of_blk {w : World} {g base : Nat} {e : TypeId} {cs : List Value} (h : Blk w g e cs) (hb : base ≤ g) (n : Nat) (hn : n ≤ cs.length) (hm : cs.length ≤ maxLen) :
    w.ownsRow base e 1 (.slice (some ⟨g, 0, none⟩) n cs.length) n (cs.take n) := by
  refine ⟨by simp; omega, .inr ⟨g, cs.length, cs.toArray, rfl, hb, h, hn, hm, by simp, by simp⟩⟩

/-! ### Splices -/
theorem splice_getElem? {α : Type} (L : List α) (o : Nat) (c : List α) (h : o + c.length ≤ L.length) (j : Nat) :
    (splice L o c)[j]? = if o ≤ j ∧ j < o + c.length then c[j - o]? else L[j]? := by
  unfold splice
  rw [List.getElem?_append, List.length_take, Nat.min_eq_left (by omega)]
  by_cases h1 : j < o
  · rw [if_pos h1, if_neg (by omega), List.getElem?_take, if_pos h1]
  · rw [if_neg h1, List.getElem?_append]
    by_cases h2 : j - o < c.length
    · rw [if_pos h2, if_pos (by omega)]
    · rw [if_neg h2, if_neg (by omega), List.getElem?_drop]
      congr 1; omega
theorem splice_vbs (l : List UInt8) (o : Nat) (c : List UInt8) : splice (vbs l) o (vbs c) = vbs (splice l o c) := by
  simp [splice, vbs]

end Go.Proofs.Yteclclidibmajaa
