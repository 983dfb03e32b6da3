/-
  Contracts of the functions of package ring, one a function.
-/
import Derived.Test.YtjlmmibokppkgaaRows
import Derived.Test.YtjlmmibokppkgaaBase
import Derived.RegionTactic
import Derived.ChangeAlike
import Derived.Deep.QuietTactic
import Derived.BigQuiet
namespace Go.Proofs.Ytjlmmibokppkgaa
open Go.RowKit
attribute [local go_sem ↓] sliced_cut run_min2 run_max2
attribute [local go_sem] cutA_zero

/-- The ring buffer at block r: its bytes lie in block bb, which holds arr; n: the capacity; u bytes from place s on are in use. -/
structure RingAt (w : World) (r bb n s u : Nat) (arr : List UInt8) : Prop where
  head : Blk w r 50 [.slice (some ⟨bb, 0, none⟩) n n, .int .i64 s, .int .i64 u]
  body : Blk w bb 5 (vbs arr)
  len : arr.length = n
  lo : 1 ≤ n
  hi : n ≤ 65536
  start : s < n
  used : u ≤ n

theorem RingAt.ne {w : World} {r bb n s u : Nat} {arr : List UInt8} (h : RingAt w r bb n s u arr) : r ≠ bb := h.head.ne_ h.body (by decide)
theorem RingAt.c0 {w : World} {r bb n s u : Nat} {arr : List UInt8} (h : RingAt w r bb n s u arr) : w.cell? ⟨r, 0, none⟩ = some (.slice (some ⟨bb, 0, none⟩) n n) := h.head.cell 0
theorem RingAt.c1 {w : World} {r bb n s u : Nat} {arr : List UInt8} (h : RingAt w r bb n s u arr) : w.cell? ⟨r, 1, none⟩ = some (.int .i64 s) := h.head.cell 1
theorem RingAt.c2 {w : World} {r bb n s u : Nat} {arr : List UInt8} (h : RingAt w r bb n s u arr) : w.cell? ⟨r, 2, none⟩ = some (.int .i64 u) := h.head.cell 2
theorem RingAt.only {w w' : World} {r bb n s u : Nat} {arr : List UInt8} {S : List Nat} (h : RingAt w r bb n s u arr) (k : Only S w w') (h1 : r ∉ S) (h2 : bb ∉ S) : RingAt w' r bb n s u arr :=
  ⟨h.head.only k h1, h.body.only k h2, h.len, h.lo, h.hi, h.start, h.used⟩
theorem RingAt.alloc {w : World} {r bb n s u : Nat} {arr : List UInt8} (h : RingAt w r bb n s u arr) (o : Obj) : RingAt (w.alloc o) r bb n s u arr :=
  ⟨h.head.alloc o, h.body.alloc o, h.len, h.lo, h.hi, h.start, h.used⟩
theorem RingAt.drewN {w : World} {r bb n s u : Nat} {arr : List UInt8} (h : RingAt w r bb n s u arr) (k : Nat) : RingAt (w.drewN k) r bb n s u arr := ⟨h.head, h.body, h.len, h.lo, h.hi, h.start, h.used⟩

/-- index: where the byte 'skip' behind the first one lies. -/
def wrapAt (n s k : Nat) : Nat := if n ≤ s + k then s + k - n else s + k
theorem wrapAt_spec (n s k : Nat) : (n ≤ s + k ∧ wrapAt n s k + n = s + k) ∨ (s + k < n ∧ wrapAt n s k = s + k) := by unfold wrapAt; split <;> omega
theorem wrapAt_lt' {n s k : Nat} (hs : s < n) (hk : k ≤ n) : wrapAt n s k < n := by unfold wrapAt; split <;> omega

/-- The bytes in use. -/
def inUse (s u : Nat) (arr : List UInt8) : List UInt8 := (List.range u).map fun i => arr.getD (wrapAt arr.length s i) 0
theorem inUse_length (s u : Nat) (arr : List UInt8) : (inUse s u arr).length = u := by simp [inUse]
theorem inUse_getElem? (s u : Nat) (arr : List UInt8) (i : Nat) : (inUse s u arr)[i]? = if i < u then some (arr.getD (wrapAt arr.length s i) 0) else none := by
  unfold inUse
  by_cases h : i < u <;> simp [h]
theorem inUse_none (s : Nat) (arr : List UInt8) : inUse s 0 arr = [] := rfl
theorem inUse_drop {s u k : Nat} {arr : List UInt8} (hs : s < arr.length) (hu : u ≤ arr.length) (hk : k ≤ u) : inUse (wrapAt arr.length s k) (u - k) arr = (inUse s u arr).drop k := by
  apply List.ext_getElem?
  intro i
  rw [List.getElem?_drop, inUse_getElem?, inUse_getElem?]
  by_cases h : i < u - k
  · rw [if_pos h, if_pos (by omega)]
    congr 2
    have e1 := wrapAt_spec arr.length s k
    have e2 := wrapAt_spec arr.length (wrapAt arr.length s k) i
    have e3 := wrapAt_spec arr.length s (k + i)
    omega
  · rw [if_neg h, if_neg (by omega)]
/-- What Put makes of the row. -/
def putRow (s u : Nat) (arr b : List UInt8) (k : Nat) : List UInt8 :=
  let o := wrapAt arr.length s u
  let m := min k (arr.length - o)
  splice (splice arr o (b.take m)) 0 ((b.drop m).take (k - m))
theorem putRow_length {s u : Nat} {arr b : List UInt8} {k : Nat} (hs : s < arr.length) (hu : u + k ≤ arr.length) (hk : k ≤ b.length) : (putRow s u arr b k).length = arr.length := by
  unfold putRow
  have hw := wrapAt_lt' hs (show u ≤ arr.length by omega)
  have h1 : (splice arr (wrapAt arr.length s u) (b.take (min k (arr.length - wrapAt arr.length s u)))).length = arr.length := length_splice _ _ _ (by simp; omega)
  dsimp only
  rw [length_splice _ _ _ (by rw [h1]; simp; omega), h1]
theorem inUse_put {s u : Nat} {arr b : List UInt8} {k : Nat} (hs : s < arr.length) (hu : u + k ≤ arr.length) (hk : k ≤ b.length) :
    inUse s (u + k) (putRow s u arr b k) = inUse s u arr ++ b.take k := by
  have hw := wrapAt_lt' hs (show u ≤ arr.length by omega)
  apply List.ext_getElem?
  intro i
  rw [List.getElem?_append, inUse_length, inUse_getElem?, inUse_getElem?, putRow_length hs hu hk]
  have h1 : (splice arr (wrapAt arr.length s u) (b.take (min k (arr.length - wrapAt arr.length s u)))).length = arr.length := length_splice _ _ _ (by simp; omega)
  have e1 := wrapAt_spec arr.length s u
  have e2 := wrapAt_spec arr.length s i
  have key : ∀ j, (putRow s u arr b k)[j]? = if j < k - min k (arr.length - wrapAt arr.length s u) then b[min k (arr.length - wrapAt arr.length s u) + j]?
      else if wrapAt arr.length s u ≤ j ∧ j < wrapAt arr.length s u + min k (arr.length - wrapAt arr.length s u) then b[j - wrapAt arr.length s u]? else arr[j]? := by
    intro j
    unfold putRow
    dsimp only
    rw [splice_getElem? _ _ _ (by rw [h1]; simp; omega), splice_getElem? _ _ _ (by simp; omega)]
    simp only [List.length_take, List.length_drop, Nat.zero_add, Nat.zero_le, true_and, Nat.sub_zero]
    rw [show min (k - min k (arr.length - wrapAt arr.length s u)) (b.length - min k (arr.length - wrapAt arr.length s u)) = k - min k (arr.length - wrapAt arr.length s u) by omega,
      show min (min k (arr.length - wrapAt arr.length s u)) b.length = min k (arr.length - wrapAt arr.length s u) by omega]
    split
    · rw [List.getElem?_take, if_pos (by assumption), List.getElem?_drop]
    · split
      · rw [List.getElem?_take, if_pos (by omega)]
      · rfl
  by_cases h : i < u
  · rw [if_pos (by omega), if_pos h, if_pos h]
    congr 1
    rw [List.getD_eq_getElem?_getD, List.getD_eq_getElem?_getD, key]
    rw [if_neg (by omega), if_neg (by omega)]
  · rw [if_neg h]
    by_cases h2 : i < u + k
    · rw [if_pos h2, List.getElem?_take, if_pos (by omega), List.getD_eq_getElem?_getD, key]
      have hb : b[i - u]? = some (b[i - u]'(by omega)) := List.getElem?_eq_getElem (by omega)
      by_cases h3 : i - u < min k (arr.length - wrapAt arr.length s u)
      · rw [if_neg (by omega), if_pos (by omega)]
        rw [show wrapAt arr.length s i - wrapAt arr.length s u = i - u by omega, hb]; rfl
      · rw [if_pos (by omega)]
        rw [show min k (arr.length - wrapAt arr.length s u) + wrapAt arr.length s i = i - u by omega, hb]; rfl
    · rw [if_neg h2, List.getElem?_take, if_neg (by omega)]
/-- What Peek reads: the two parts. -/
theorem inUse_take {s u k : Nat} {arr : List UInt8} (hs : s < arr.length) (hu : u ≤ arr.length) (hk : k ≤ u) :
    (inUse s u arr).take k = (arr.drop s).take (min k (arr.length - s)) ++ arr.take (k - min k (arr.length - s)) := by
  apply List.ext_getElem?
  intro i
  rw [List.getElem?_take, inUse_getElem?, List.getElem?_append]
  simp only [List.length_take, List.length_drop, List.getElem?_take, List.getElem?_drop]
  by_cases h : i < k
  · rw [if_pos h, if_pos (by omega)]
    have hlt := wrapAt_lt' hs (show i ≤ arr.length by omega)
    have e1 := wrapAt_spec arr.length s i
    have hb : arr[wrapAt arr.length s i]? = some (arr[wrapAt arr.length s i]) := List.getElem?_eq_getElem hlt
    rw [List.getD_eq_getElem?_getD]
    by_cases h2 : i < min k (arr.length - s)
    · rw [if_pos (by omega), if_pos h2, show s + i = wrapAt arr.length s i by omega, hb]; rfl
    · rw [if_neg (by omega), if_pos (by omega), show i - min (min k (arr.length - s)) (arr.length - s) = wrapAt arr.length s i by omega, hb]; rfl
  · rw [if_neg h, if_neg (by omega), if_neg (by omega)]

/-! ### Len, Cap, Free, Consume, New -/
set_option maxHeartbeats 400000 in
theorem len_any {w : World} {r bb n s u : Nat} {arr : List UInt8} (h : RingAt w r bb n s u arr) :
    Calls Try.prog 12 #[.pointer (some ⟨r, 0, none⟩)] w fun e w' => e = .returned (.int .i64 u) ∧ w = w' := by
  have c2 := h.c2
  go_enter Try.func12, Try.ntmps12
  go_wp2
  go_ret
  exact ⟨rfl, rfl⟩

set_option maxHeartbeats 400000 in
theorem cap_any {w : World} {r bb n s u : Nat} {arr : List UInt8} (h : RingAt w r bb n s u arr) :
    Calls Try.prog 14 #[.pointer (some ⟨r, 0, none⟩)] w fun e w' => e = .returned (.int .i64 n) ∧ w = w' := by
  have c0 := h.c0
  go_enter Try.func14, Try.ntmps14
  go_wp2
  go_ret
  exact ⟨rfl, rfl⟩

theorem ret_int {k : IntKind} {a b : Int} (h : a = b) : Ending.returned (.int k a) = .returned (.int k b) := by rw [h]

set_option maxHeartbeats 400000 in
theorem free_any {w : World} {r bb n s u : Nat} {arr : List UInt8} (h : RingAt w r bb n s u arr) (f : Nat) (hf : f + u = n) :
    Calls Try.prog 13 #[.pointer (some ⟨r, 0, none⟩)] w fun e w' => e = .returned (.int .i64 f) ∧ w = w' := by
  have HF := Lib.hid hf
  clear hf
  have b1 := h.used
  have b2 := h.hi
  go_enter Try.func13, Try.ntmps13
  go_wp2_with (first | (go_at_call 14; refine (cap_any h).mono ?_; rintro e w' ⟨rfl, rfl⟩) | (go_at_call 12; refine (len_any h).mono ?_; rintro e w' ⟨rfl, rfl⟩))
  go_ret
  have := HF.out
  exact ⟨ret_int (by omega), rfl⟩

set_option maxHeartbeats 400000 in
theorem index_any {w : World} {r bb n s u : Nat} {arr : List UInt8} (h : RingAt w r bb n s u arr) (k : Int) (h0 : 0 ≤ k) (h1 : k ≤ n) :
    Calls Try.prog 23 #[.pointer (some ⟨r, 0, none⟩), .int .i64 k] w fun e w' => e = .returned (.int .i64 (wrapAt n s k.toNat : Nat)) ∧ w = w' := by
  obtain ⟨k, rfl⟩ := Int.eq_ofNat_of_zero_le h0
  rw [Int.toNat_natCast]
  have c0 := h.c0
  have c1 := h.c1
  have b1 := h.start
  have b2 := h.hi
  by_cases hk : n ≤ s + k
  · go_enter Try.func23, Try.ntmps23
    go_wp2
    go_ret
    exact ⟨ret_int (by unfold wrapAt; rw [if_pos hk]; omega), rfl⟩
  · go_enter Try.func23, Try.ntmps23
    go_wp2
    go_ret
    exact ⟨ret_int (by unfold wrapAt; rw [if_neg hk]; omega), rfl⟩


/-! ### New -/
theorem info_byte : (Try.prog.info? 5).map (fun i => (i.zero, i.size, i.bytes)) = some (some (.int .u8 0), 1, 1) := by kernel_rfl
theorem size_byte : (Try.prog.info? 5).map (·.size) = some 1 := by kernel_rfl
theorem make_bytes (n : Nat) (hn : n ≤ 281474976710656) (W : World) :
    (Instr.makeSlice 25 (.int .i64 (n : Int)) (.int .i64 (n : Int))).run Try.prog W = .ok (.slice (some ⟨W.heap.size, 0, none⟩) n n) (W.alloc (.cells (vbs (List.replicate n 0)).toArray 5)) := by
  obtain ⟨i0, hi, hz0, hz1, hz2⟩ := info_parts info_byte
  have hr := run_make (P := Try.prog) W 25 5 i0 _ Try.underlying25 hi hz0 .i64 .i64 n n (by omega) (by omega) (by rw [hz2]; omega) (by omega)
  rw [hr, hz1, Int.toNat_natCast, Nat.mul_one]
  have e : madeCells (Value.int .u8 0).cells n = (vbs (List.replicate n 0)).toArray := by
    apply Array.ext'
    have := toList_madeCells_one (Value.int .u8 0) n
    simpa [Value.cells, vbs, vb] using this
  rw [e]

set_option maxHeartbeats 400000 in
theorem new_any (n : Int) (h1 : 1 ≤ n) (h2 : n ≤ 65536) (w : World) :
    Calls Try.prog 17 #[.int .i64 n] w fun e w' => ∃ r bb, e = .returned (.tuple #[.pointer (some ⟨r, 0, none⟩), .int .i64 0]) ∧
      w.heap.size ≤ r ∧ w.heap.size ≤ bb ∧ RingAt w' r bb n.toNat 0 0 (List.replicate n.toNat 0) ∧ Only [] w w' := by
  obtain ⟨n, rfl⟩ := Int.eq_ofNat_of_zero_le (show 0 ≤ n by omega)
  rw [Int.toNat_natCast]
  have hmk := make_bytes n (by omega)
  have hb := Blk.new w 5 (vbs (List.replicate n 0))
  generalize hX : vbs (List.replicate n 0) = X at hmk hb
  have HX := Lib.hid hX
  clear hX
  go_enter Try.func17, Try.ntmps17
  go_wp2
  go_ret2
  refine ⟨w.heap.size + 1, w.heap.size, rfl, by omega, by omega, ⟨?_, ?_, by simp, by omega, by omega, by omega, by omega⟩, ((Only.refl _ _).alloc _).alloc _⟩
  · have := Blk.new (w.alloc (.cells X.toArray 5)) 50 [.slice (some ⟨w.heap.size, 0, none⟩) n n, .int .i64 0, .int .i64 0]
    simpa using this
  · rw [HX.out]
    exact hb.alloc _

set_option maxHeartbeats 400000 in
theorem new_bad (n : Int) (h : n < 1 ∨ 65536 < n) (w : World) :
    Calls Try.prog 17 #[.int .i64 n] w fun e w' => e = .returned (.tuple #[.pointer none, .int .i64 3]) ∧ w = w' := by
  by_cases h1 : n < 1
  · go_enter Try.func17, Try.ntmps17
    go_wp2
    go_ret2
    exact ⟨rfl, rfl⟩
  · have h2 : 65536 < n := by omega
    go_enter Try.func17, Try.ntmps17
    go_wp2
    go_ret2
    exact ⟨rfl, rfl⟩

/-! ### Consume -/
set_option maxHeartbeats 400000 in
theorem consume_bad {w : World} {r bb n s u : Nat} {arr : List UInt8} (h : RingAt w r bb n s u arr) (k : Int) (hk : k < 0 ∨ u < k) :
    Calls Try.prog 11 #[.pointer (some ⟨r, 0, none⟩), .int .i64 k] w fun e w' => e = .returned (.int .i64 3) ∧ w = w' := by
  have c2 := h.c2
  by_cases h1 : k < 0
  · go_enter Try.func11, Try.ntmps11
    go_wp2
    go_ret
    exact ⟨rfl, rfl⟩
  · have h2 : u < k := by omega
    go_enter Try.func11, Try.ntmps11
    go_wp2
    go_ret
    exact ⟨rfl, rfl⟩

set_option maxHeartbeats 400000 in
theorem consume_any {w : World} {r bb n s u : Nat} {arr : List UInt8} (h : RingAt w r bb n s u arr) (k : Int) (d : Nat) (h0 : 0 ≤ k) (hd : d + k.toNat = u) :
    Calls Try.prog 11 #[.pointer (some ⟨r, 0, none⟩), .int .i64 k] w fun e w' => e = .returned (.int .i64 0) ∧
      RingAt w' r bb n (wrapAt n s k.toNat) d arr ∧ Only [r] w w' := by
  obtain ⟨k, rfl⟩ := Int.eq_ofNat_of_zero_le h0
  rw [Int.toNat_natCast] at *
  have h1 : (k : Int) ≤ u := by omega
  have c1 := h.c1
  have c2 := h.c2
  have f1 := h.head.free 1
  have f2 := h.head.free 2
  have b1 := h.used
  have b2 := h.hi
  have hlt := wrapAt_lt' h.start (show k ≤ n by omega)
  have HD := Lib.hid hd
  clear hd
  go_enter Try.func11, Try.ntmps11
  go_wp2_with (go_at_call 23; refine (index_any h _ (by omega) (by omega)).mono ?_; rintro e w' ⟨rfl, rfl⟩)
  go_ret
  refine ⟨rfl, ⟨?_, ?_, h.len, h.lo, h.hi, hlt, by have := HD.out; omega⟩, ((Only.refl _ _).setCell (.inl (by simp)) _).setCell (.inl (by simp)) _⟩
  · have hde := HD.out
    have := (h.head.set_ 1 (.int .i64 (wrapAt n s k))).set_ 2 (.int .i64 ((u : Int) - k))
    rw [show (d : Int) = (u : Int) - k by omega]
    simpa using this
  · exact (h.body.far (by simpa using h.ne.symm) _).far (by simpa using h.ne.symm) _

/-! ### parts -/
set_option maxHeartbeats 400000 in
theorem parts_any {w : World} {r bb n s u : Nat} {arr : List UInt8} (h : RingAt w r bb n s u arr) (k m : Int) (o hd : Nat) (h0 : 0 ≤ k) (h1 : k ≤ n) (h2 : 0 ≤ m) (h3 : m ≤ n)
    (ho : o = wrapAt n s k.toNat) (hh : hd = min m.toNat (n - o)) :
    Calls Try.prog 22 #[.pointer (some ⟨r, 0, none⟩), .int .i64 k, .int .i64 m] w fun e w' =>
      e = .returned (.tuple #[.slice (some ⟨bb, o, none⟩) hd (n - o), .slice (some ⟨bb, 0, none⟩) (m.toNat - hd) n]) ∧ ∃ q, w' = w.drewN q := by
  obtain ⟨k, rfl⟩ := Int.eq_ofNat_of_zero_le h0
  obtain ⟨m, rfl⟩ := Int.eq_ofNat_of_zero_le h2
  simp only [Int.toNat_natCast] at *
  have c0 := h.c0
  have b2 := h.hi
  have hlt : o < n := by rw [ho]; exact wrapAt_lt' h.start (show k ≤ n by omega)
  have hix := index_any h (k : Int) (by omega) (by omega)
  rw [Int.toNat_natCast, ← ho] at hix
  clear ho
  have HIX := Lib.hid hix
  clear hix
  have hcut : cutA n o 1 (some ⟨bb, 0, none⟩) = some ⟨bb, o, none⟩ := by
    have := cutA_some (m := n) (l := o) bb 0 (by omega)
    simpa using this
  have hmn : imin (m : Int) ((n : Int) - (o : Int)) = (hd : Int) := by have := imin_spec (m : Int) ((n : Int) - (o : Int)); omega
  have hx : IntKind.i64.wrap ((o : Int) + (hd : Int)) = (o : Int) + (hd : Int) := IntWalk.i64_in _ (by omega)
  have hy : IntKind.i64.wrap ((m : Int) - (hd : Int)) = (m : Int) - (hd : Int) := IntWalk.i64_in _ (by omega)
  have hy0 : 0 ≤ (m : Int) - (hd : Int) := by omega
  have hy1 : (m : Int) - (hd : Int) ≤ n := by omega
  have hz1 : (o : Int) + (hd : Int) ≤ n := by omega
  have hx0 : ((o : Int) + (hd : Int)).toNat = o + hd := by omega
  have hx1 : ((m : Int) - (hd : Int)).toNat = m - hd := by omega
  clear hh
  go_enter Try.func22, Try.ntmps22
  go_wp2_with (go_at_call 23; refine HIX.out.mono ?_; rintro e w' ⟨rfl, rfl⟩)
  go_quiet (fail)
  go_wp2
  go_ret2
  exact ⟨rfl, nq, rfl⟩

/-! ### Put -/
theorem only_undrewN {S : List Nat} {w w1 : World} {q : Nat} (h : Only S (w.drewN q) w1) : Only S w w1 := ⟨h.os, h.tape, h.output, h.size, h.block⟩
theorem put_frame {w w1 w2 : World} {q r bb : Nat} {i : Nat} {v : Value} (h1 : Only [bb] (w.drewN q) w1) (h2 : Only [bb] w1 w2) : Only [r, bb] w (w2.setCell ⟨r, i, none⟩ v) :=
  (((only_undrewN h1).trans h2).more (by simp)).setCell (.inl (by simp)) _
theorem put_ring {w w1 w2 : World} {q r bb n s u k m hd o : Nat} {arr b : List UInt8} {X Y Z : List Value} (hR : RingAt w r bb n s u arr)
    (hk : k = min m (n - u)) (hb : b.length = m) (ho : o = wrapAt n s u) (hh : hd = min k (n - o)) (hX : X = vbs (b.take hd)) (hY : Y = vbs ((b.drop hd).take (k - hd)))
    (hZ : Z = splice (vbs arr) o X) (h1 : Only [bb] (w.drewN q) w1) (h2 : Only [bb] w1 w2) (hG : Blk w2 bb 5 (splice Z 0 Y)) :
    RingAt (w2.setCell ⟨r, 2, none⟩ (.int .i64 ((u : Int) + (k : Int)))) r bb n s (u + k) (putRow s u arr b k) := by
  have hl := hR.len
  have hu := hR.used
  have hlen : (putRow s u arr b k).length = n := by
    rw [putRow_length (by rw [hl]; exact hR.start) (by rw [hl]; omega) (by omega), hl]
  refine ⟨?_, ?_, hlen, hR.lo, hR.hi, hR.start, by omega⟩
  · have := (((hR.head.only (only_undrewN h1) (by simpa using hR.ne)).only h2 (by simpa using hR.ne)).set_ 2 (.int .i64 ((u : Int) + (k : Int))))
    rw [show ((u + k : Nat) : Int) = (u : Int) + (k : Int) by omega]
    simpa using this
  · refine Blk.far ?_ (by simpa using hR.ne.symm) _
    have e : vbs (putRow s u arr b k) = splice Z 0 Y := by
      unfold putRow
      dsimp only
      rw [hl, ← ho, ← hh, hZ, hX, hY, splice_vbs, splice_vbs]
    rw [e]
    exact hG
set_option maxHeartbeats 400000 in
theorem put_any {w : World} {r bb n s u : Nat} {arr : List UInt8} (hR : RingAt w r bb n s u arr) {A : Option Addr} {m c : Nat} {b : List UInt8}
    (hb : Reads w w.heap.size A m (vbs b)) (hne : 0 < m → ∀ ad, A = some ad → ad.block ≠ bb) (hmc : m ≤ c) (hm : m ≤ maxLen) (k : Nat) (hk : k = min m (n - u)) :
    Calls Try.prog 9 #[.pointer (some ⟨r, 0, none⟩), .slice A m c] w fun e w' =>
      e = .returned (.int .i64 k) ∧ RingAt w' r bb n s (u + k) (putRow s u arr b k) ∧ Only [r, bb] w w' := by
  have hbl : b.length = m := by have := hb.1; rwa [vbs_length] at this
  have c2 := hR.c2
  have b1 := hR.used
  have b2 := hR.hi
  unfold maxLen at hm
  obtain ⟨f, hf⟩ : ∃ f, f + u = n := ⟨n - u, by omega⟩
  obtain ⟨o, ho⟩ : ∃ o, o = wrapAt n s u := ⟨_, rfl⟩
  have hlt : o < n := by rw [ho]; exact wrapAt_lt' hR.start hR.used
  obtain ⟨hd, hh⟩ : ∃ hd, hd = min k (n - o) := ⟨_, rfl⟩
  have hfree := Lib.hid (free_any hR f hf)
  have hparts := Lib.hid (parts_any hR (u : Int) (k : Int) o hd (by omega) (by omega) (by omega) (by omega) (by simpa using ho) (by simpa using hh))
  rw [Int.toNat_natCast] at hparts
  have hkm : k ≤ m := by omega
  have hdk : hd ≤ k := by omega
  have hon : o + hd ≤ n := by omega
  have HB := Lib.hid hbl
  have HO := Lib.hid ho
  have HH := Lib.hid hh
  clear hbl ho hh
  obtain ⟨X, hX⟩ : ∃ X, X = vbs (b.take hd) := ⟨_, rfl⟩
  have hXl : X.length = hd := by rw [hX, vbs_length, List.length_take, HB.out]; omega
  have HX := Lib.hid hX
  have HXl := Lib.hid hXl
  clear hX hXl
  have hn1 := Lib.hid (show X.length = Nat.min m hd by rw [HXl.out]; exact (Nat.min_eq_right (by omega)).symm)
  have hf1 := Lib.hid (show o + X.length ≤ (vbs arr).length by rw [HXl.out, vbs_length, hR.len]; omega)
  have ho1 := Lib.hid (show ∀ v ∈ X, v.oneCell' = true by rw [HX.out]; exact vbs_one _)
  have hp1 := Lib.hid (show ∀ q, CopyFits (w.drewN q) (some ⟨bb, o, none⟩) bb o A X by
    intro q hp
    obtain ⟨ad, e, _, hc⟩ := hb.2 (by rw [HXl.out] at hp; omega)
    refine ⟨rfl, ad, e, fun j v hv => hc j v ?_⟩
    rw [HX.out, vbs_take, List.getElem?_take] at hv
    split at hv
    · exact hv
    · cases hv)
  obtain ⟨Y, hY⟩ : ∃ Y, Y = vbs ((b.drop hd).take (k - hd)) := ⟨_, rfl⟩
  have hYl : Y.length = k - hd := by rw [hY, vbs_length, List.length_take, List.length_drop, HB.out]; omega
  obtain ⟨Z, hZ⟩ : ∃ Z, Z = splice (vbs arr) o X := ⟨_, rfl⟩
  have hZl : Z.length = n := by rw [hZ, length_splice _ _ _ hf1.out, vbs_length, hR.len]
  have hn2 := Lib.hid (show Y.length = Nat.min (m - X.length) (k - hd) by rw [HXl.out, hYl]; exact (Nat.min_eq_right (by omega)).symm)
  have hf2 := Lib.hid (show 0 + Y.length ≤ Z.length by rw [hYl, hZl]; omega)
  have ho2 := Lib.hid (show ∀ v ∈ Y, v.oneCell' = true by rw [hY]; exact vbs_one _)
  have hp2 := Lib.hid (show ∀ w1 q, Only [bb] (w.drewN q) w1 → CopyFits w1 (some ⟨bb, 0, none⟩) bb 0 (cutA c X.length 1 A) Y by
    intro w1 q hO hp
    rw [hYl] at hp
    obtain ⟨ad, e, hlt, hc⟩ := ((hb.only' (w' := w1) (S := [bb]) ⟨hO.os, hO.tape, hO.output, hO.size, hO.block⟩ (Nat.le_refl _) (fun h0 ad e => by simpa using hne h0 ad e)).cut_ (k := hd) (m := k) hdk hkm hmc).2 (by omega)
    refine ⟨rfl, ad, by rw [HXl.out]; exact e, fun j v hv => hc j v ?_⟩
    rw [← vbs_drop, ← vbs_take, ← hY]
    exact hv)
  have HY := Lib.hid hY
  have HZ := Lib.hid hZ
  have HYl := Lib.hid hYl
  clear hY hZ hYl hZl
  have hbody : ∀ w1, Hid (Blk w1 bb 5 (splice (vbs arr) o X)) → Blk w1 bb 5 Z := fun w1 hh => by rw [HZ.out]; exact hh.out
  have hcell : ∀ q w1, Only [bb] (w.drewN q) w1 → ∀ w2, Only [bb] w1 w2 → w2.cell? ⟨r, 2, none⟩ = some (.int .i64 u) ∧ w2.frozen? ⟨r, 2, none⟩ = false := by
    intro q w1 h1 w2 h2
    have hne := hR.ne
    have hb2 := ((hR.head.drewN q).only h1 (by simpa using hne)).only h2 (by simpa using hne)
    exact ⟨hb2.cell 2, hb2.free 2⟩
  have HBd := Lib.hid hbody
  have HCl := Lib.hid hcell
  clear hbody hcell
  have hmn : imin (m : Int) (f : Int) = (k : Int) := by have := imin_spec (m : Int) (f : Int); omega
  have HK := Lib.hid hk
  have HF := Lib.hid hf
  clear hk hf
  have hXm : X.length ≤ m := by rw [HXl.out]; omega
  have huk : u + k ≤ n := by have := HK.out; omega
  go_enter Try.func9, Try.ntmps9
  go_wp2_with (first
    | (go_at_call 13; refine hfree.out.mono ?_; rintro e w' ⟨rfl, rfl⟩)
    | (go_at_call 22; refine hparts.out.mono ?_; rintro e w' ⟨rfl, q, rfl⟩)
    | (with_reducible refine wp_copy rfl (.tmp 26) (.tmp 27) 25 25 rfl 5 Try.underlying25 size_byte _ _ _ _ _ _ rfl rfl bb o (vbs arr) 5 (hR.body.drewN _) X hn1.out (hp1.out _) hf1.out ho1.out ?_; intro w1 HG1 HS1 hO1)
    | (with_reducible refine wp_copy rfl (.tmp 29) (.tmp 32) 25 25 rfl 5 Try.underlying25 size_byte _ _ _ _ _ _ rfl rfl bb 0 Z 5 (HBd.out _ HG1) Y hn2.out (hp2.out _ _ hO1) hf2.out ho2.out ?_; intro w2 HG2 HS2 hO2; have hcf := HCl.out _ _ hO1 _ hO2; have hcf1 := hcf.1; have hcf2 := hcf.2; clear hcf))
  go_ret
  refine ⟨rfl, ?_, ?_⟩
  · exact put_ring hR HK.out HB.out HO.out HH.out HX.out HY.out HZ.out hO1 hO2 HG2.out
  · exact put_frame hO1 hO2

/-! ### Peek -/
set_option maxHeartbeats 400000 in
theorem peek_any {w : World} {r bb n s u : Nat} {arr : List UInt8} (hR : RingAt w r bb n s u arr) (k : Int) (m : Nat) (hm : m = (min k u).toNat) :
    Calls Try.prog 10 #[.pointer (some ⟨r, 0, none⟩), .int .i64 k] w fun e w' =>
      ∃ g, e = .returned (.slice (some ⟨g, 0, none⟩) m m) ∧ w.heap.size ≤ g ∧ Blk w' g 5 (vbs ((inUse s u arr).take m)) ∧ Only [] w w' := by
  have c2 := hR.c2
  have b1 := hR.used
  have b2 := hR.hi
  have hmk := make_bytes m (by omega)
  have hB0 := Blk.new w 5 (vbs (List.replicate m 0))
  have hR1 := hR.alloc (.cells (vbs (List.replicate m 0)).toArray 5)
  obtain ⟨W0, hW0⟩ : ∃ W0, W0 = vbs (List.replicate m 0) := ⟨_, rfl⟩
  have hW0l : W0.length = m := by rw [hW0, vbs_length, List.length_replicate]
  rw [← hW0] at hmk hB0 hR1
  clear hW0
  obtain ⟨hd, hh⟩ : ∃ hd, hd = min m (n - s) := ⟨_, rfl⟩
  have hparts := Lib.hid (parts_any hR1 0 (m : Int) s hd (by omega) (by omega) (by omega) (by omega) (by have := wrapAt_spec n s 0; have := hR.start; simp; omega) (by simpa using hh))
  rw [Int.toNat_natCast] at hparts
  have hsl := hR.start
  have hle : m ≤ u := by omega
  obtain ⟨X, hX⟩ : ∃ X, X = vbs ((arr.drop s).take hd) := ⟨_, rfl⟩
  have hXl : X.length = hd := by rw [hX, vbs_length, List.length_take, List.length_drop, hR.len]; omega
  obtain ⟨Y, hY⟩ : ∃ Y, Y = vbs (arr.take (m - hd)) := ⟨_, rfl⟩
  have hYl : Y.length = m - hd := by rw [hY, vbs_length, List.length_take, hR.len]; omega
  have hn1 := Lib.hid (show X.length = Nat.min hd m by rw [hXl]; exact (Nat.min_eq_left (by omega)).symm)
  have hn2 := Lib.hid (show Y.length = Nat.min (m - hd) (m - X.length) by rw [hXl, hYl]; exact (Nat.min_self _).symm)
  have hf1 := Lib.hid (show 0 + X.length ≤ W0.length by rw [hXl, hW0l]; omega)
  have ho1 := Lib.hid (show ∀ v ∈ X, v.oneCell' = true by rw [hX]; exact vbs_one _)
  have ho2 := Lib.hid (show ∀ v ∈ Y, v.oneCell' = true by rw [hY]; exact vbs_one _)
  have hf2 := Lib.hid (show X.length + Y.length ≤ (splice W0 0 X).length by rw [length_splice _ _ _ hf1.out, hXl, hYl, hW0l]; omega)
  have hp1 := Lib.hid (show ∀ q, CopyFits ((w.alloc (.cells W0.toArray 5)).drewN q) (some ⟨w.heap.size, 0, none⟩) w.heap.size 0 (some ⟨bb, s, none⟩) X by
    intro q _
    refine ⟨rfl, _, rfl, fun j v hv => ?_⟩
    rw [add_at, (hR1.body.drewN q).cell]
    rw [hX, vbs_take, vbs_drop, List.getElem?_take] at hv
    split at hv
    · simpa using hv
    · cases hv)
  have hp2 := Lib.hid (show ∀ w1 q, Only [w.heap.size] ((w.alloc (.cells W0.toArray 5)).drewN q) w1 → CopyFits w1 (cutA m X.length 1 (some ⟨w.heap.size, 0, none⟩)) w.heap.size X.length (some ⟨bb, 0, none⟩) Y by
    intro w1 q hO hp
    rw [hYl] at hp
    refine ⟨by rw [hXl, cutA_some _ _ (by omega), Nat.zero_add], _, rfl, fun j v hv => ?_⟩
    have hne : bb ≠ w.heap.size := by have := hR.body.lt; omega
    rw [add_at, ((hR1.body.drewN q).only hO (by simpa using hne)).cell, Nat.zero_add]
    rw [hY, vbs_take, List.getElem?_take] at hv
    split at hv
    · exact hv
    · cases hv)
  have hfin := Lib.hid (show ∀ w2, Blk w2 w.heap.size 5 (splice (splice W0 0 X) X.length Y) → Blk w2 w.heap.size 5 (vbs ((inUse s u arr).take m)) by
    intro w2 hb
    have e : vbs ((inUse s u arr).take m) = splice (splice W0 0 X) X.length Y := by
      rw [inUse_take (by rw [hR.len]; exact hR.start) (by rw [hR.len]; exact hR.used) hle, hR.len, ← hh, vbs_append, ← hX, ← hY]
      apply List.ext_getElem?
      intro i
      rw [splice_getElem? _ _ _ hf2.out, splice_getElem? _ _ _ hf1.out, List.getElem?_append]
      simp only [Nat.zero_le, true_and, Nat.zero_add, Nat.sub_zero]
      by_cases h1 : i < X.length
      · rw [if_pos h1, if_neg (by omega), if_pos h1]
      · rw [if_neg h1]
        by_cases h2 : i < X.length + Y.length
        · rw [if_pos ⟨by omega, h2⟩]
        · rw [if_neg (by omega), if_neg h1, List.getElem?_eq_none (by omega), List.getElem?_eq_none (by omega)]
    rw [e]
    exact hb)
  clear hX hY
  have HXl := Lib.hid hXl
  have HYl := Lib.hid hYl
  have HW0l := Lib.hid hW0l
  have HH := Lib.hid hh
  clear hXl hYl hW0l hh
  have hXm : X.length ≤ m := by rw [HXl.out]; have := HH.out; omega
  have hmn : imax 0 (imin k (u : Int)) = (m : Int) := by have := imin_spec k (u : Int); have := imax_spec 0 (imin k (u : Int)); omega
  clear hm
  go_enter Try.func10, Try.ntmps10
  go_wp2_with (first
    | (go_at_call 22; refine hparts.out.mono ?_; rintro e w' ⟨rfl, q, rfl⟩)
    | (with_reducible refine wp_copy rfl (.tmp 26) (.tmp 27) 25 25 rfl 5 Try.underlying25 size_byte _ _ _ _ _ _ rfl rfl w.heap.size 0 W0 5 (hB0.drewN _) X hn1.out (hp1.out _) hf1.out ho1.out ?_; intro w1 HG1 HS1 hO1)
    | (with_reducible refine wp_copy rfl (.tmp 31) (.tmp 32) 25 25 rfl 5 Try.underlying25 size_byte _ _ _ _ _ _ rfl rfl w.heap.size X.length (splice W0 0 X) 5 HG1.out Y hn2.out (hp2.out _ _ hO1) hf2.out ho2.out ?_; intro w2 HG2 HS2 hO2))
  go_ret
  refine ⟨w.heap.size, rfl, Nat.le_refl _, hfin.out _ HG2.out, ?_⟩
  exact (((Only.refl [] w).alloc _).join (only_undrewN hO1) (by simp)).join hO2 (by simp)

/-! ### The same, said of the content -/
/-- The ring buffer at block r with body bb and capacity n contains the bytes c. -/
def RingOf (w : World) (r bb n : Nat) (c : List UInt8) : Prop := ∃ s arr, RingAt w r bb n s c.length arr ∧ c = inUse s c.length arr

theorem RingOf.only {w w' : World} {r bb n : Nat} {c : List UInt8} {S : List Nat} (h : RingOf w r bb n c) (k : Only S w w') (h1 : r ∉ S) (h2 : bb ∉ S) : RingOf w' r bb n c := by
  obtain ⟨s, arr, hR, hc⟩ := h
  exact ⟨s, arr, hR.only k h1 h2, hc⟩
theorem RingOf.alloc {w : World} {r bb n : Nat} {c : List UInt8} (h : RingOf w r bb n c) (o : Obj) : RingOf (w.alloc o) r bb n c := by
  obtain ⟨s, arr, hR, hc⟩ := h
  exact ⟨s, arr, hR.alloc o, hc⟩
theorem RingOf.drewN {w : World} {r bb n : Nat} {c : List UInt8} (h : RingOf w r bb n c) (k : Nat) : RingOf (w.drewN k) r bb n c := by
  obtain ⟨s, arr, hR, hc⟩ := h
  exact ⟨s, arr, hR.drewN k, hc⟩
theorem RingOf.lt {w : World} {r bb n : Nat} {c : List UInt8} (h : RingOf w r bb n c) : r < w.heap.size ∧ bb < w.heap.size := by
  obtain ⟨s, arr, hR, _⟩ := h
  exact ⟨hR.head.lt, hR.body.lt⟩
theorem RingOf.le {w : World} {r bb n : Nat} {c : List UInt8} (h : RingOf w r bb n c) : c.length ≤ n ∧ 1 ≤ n ∧ n ≤ 65536 := by
  obtain ⟨s, arr, hR, _⟩ := h
  exact ⟨hR.used, hR.lo, hR.hi⟩

theorem new_c (n : Int) (N : Nat) (hn : n = N) (h1 : 1 ≤ N) (h2 : N ≤ 65536) (w : World) :
    Calls Try.prog 17 #[.int .i64 n] w fun e w' => ∃ r bb, e = .returned (.tuple #[.pointer (some ⟨r, 0, none⟩), .int .i64 0]) ∧
      w.heap.size ≤ r ∧ w.heap.size ≤ bb ∧ RingOf w' r bb N [] ∧ Only [] w w' := by
  subst hn
  refine (new_any (N : Int) (by omega) (by omega) w).mono ?_
  rintro e w' ⟨r, bb, rfl, hr, hb, hR, hO⟩
  rw [Int.toNat_natCast] at hR
  exact ⟨r, bb, rfl, hr, hb, ⟨0, _, hR, rfl⟩, hO⟩
theorem len_c {w : World} {r bb n : Nat} {c : List UInt8} (h : RingOf w r bb n c) (u : Nat) (hu : u = c.length) :
    Calls Try.prog 12 #[.pointer (some ⟨r, 0, none⟩)] w fun e w' => e = .returned (.int .i64 u) ∧ w = w' := by
  obtain ⟨s, arr, hR, _⟩ := h
  subst hu
  exact len_any hR
theorem cap_c {w : World} {r bb n : Nat} {c : List UInt8} (h : RingOf w r bb n c) :
    Calls Try.prog 14 #[.pointer (some ⟨r, 0, none⟩)] w fun e w' => e = .returned (.int .i64 n) ∧ w = w' := by
  obtain ⟨s, arr, hR, _⟩ := h
  exact cap_any hR
theorem free_c {w : World} {r bb n : Nat} {c : List UInt8} (h : RingOf w r bb n c) (f : Nat) (hf : f + c.length = n) :
    Calls Try.prog 13 #[.pointer (some ⟨r, 0, none⟩)] w fun e w' => e = .returned (.int .i64 f) ∧ w = w' := by
  obtain ⟨s, arr, hR, _⟩ := h
  exact free_any hR f hf
theorem consume_c {w : World} {r bb n : Nat} {c : List UInt8} (h : RingOf w r bb n c) (k : Int) (j : Nat) (hk : k = j) (hj : j ≤ c.length) :
    Calls Try.prog 11 #[.pointer (some ⟨r, 0, none⟩), .int .i64 k] w fun e w' => e = .returned (.int .i64 0) ∧ RingOf w' r bb n (c.drop j) ∧ Only [r] w w' := by
  obtain ⟨s, arr, hR, hc⟩ := h
  subst hk
  refine (consume_any hR (j : Int) (c.length - j) (by omega) (by rw [Int.toNat_natCast]; omega)).mono ?_
  rintro e w' ⟨rfl, hR', hO⟩
  rw [Int.toNat_natCast] at hR'
  refine ⟨rfl, ⟨_, arr, by simpa using hR', ?_⟩, hO⟩
  have := inUse_drop (s := s) (u := c.length) (k := j) (arr := arr) (by rw [hR.len]; exact hR.start) (by rw [hR.len]; exact hR.used) hj
  rw [List.length_drop, ← hR.len, this, ← hc]
theorem consume_c_bad {w : World} {r bb n : Nat} {c : List UInt8} (h : RingOf w r bb n c) (k : Int) (hk : k < 0 ∨ (c.length : Int) < k) :
    Calls Try.prog 11 #[.pointer (some ⟨r, 0, none⟩), .int .i64 k] w fun e w' => e = .returned (.int .i64 3) ∧ w = w' := by
  obtain ⟨s, arr, hR, _⟩ := h
  exact consume_bad hR k hk
theorem put_c {w : World} {r bb n : Nat} {c : List UInt8} (h : RingOf w r bb n c) {A : Option Addr} {m cap : Nat} {b : List UInt8} {B : Nat}
    (hb : Reads w B A m (vbs b)) (hB : B ≤ w.heap.size) (hne : 0 < m → ∀ ad, A = some ad → ad.block ≠ bb) (hmc : m ≤ cap) (hm : m ≤ maxLen) (k : Nat) (hk : k = min m (n - c.length)) :
    Calls Try.prog 9 #[.pointer (some ⟨r, 0, none⟩), .slice A m cap] w fun e w' =>
      e = .returned (.int .i64 k) ∧ RingOf w' r bb n (c ++ b.take k) ∧ Only [r, bb] w w' := by
  obtain ⟨s, arr, hR, hc⟩ := h
  have hbl : b.length = m := by have := hb.1; rwa [vbs_length] at this
  refine (put_any hR (hb.more hB) hne hmc hm k hk).mono ?_
  rintro e w' ⟨rfl, hR', hO⟩
  refine ⟨rfl, ⟨s, putRow s c.length arr b k, ?_, ?_⟩, hO⟩
  · have e1 : (c ++ b.take k).length = c.length + k := by simp; omega
    rw [e1]
    exact hR'
  · have hu := hR.used
    have e1 : (c ++ b.take k).length = c.length + k := by simp; omega
    rw [e1, inUse_put (by rw [hR.len]; exact hR.start) (by rw [hR.len]; omega) (by omega), ← hc]
theorem peek_c {w : World} {r bb n : Nat} {c : List UInt8} (h : RingOf w r bb n c) (k : Int) (m : Nat) (hm : m = (min k c.length).toNat) :
    Calls Try.prog 10 #[.pointer (some ⟨r, 0, none⟩), .int .i64 k] w fun e w' =>
      ∃ g, e = .returned (.slice (some ⟨g, 0, none⟩) m m) ∧ w.heap.size ≤ g ∧ Blk w' g 5 (vbs (c.take m)) ∧ Only [] w w' := by
  obtain ⟨s, arr, hR, hc⟩ := h
  refine (peek_any hR k m hm).mono ?_
  rintro e w' ⟨g, rfl, hg, hB, hO⟩
  rw [← hc] at hB
  exact ⟨g, rfl, hg, hB, hO⟩

end Go.Proofs.Ytjlmmibokppkgaa
