/-
  What the laws on writer share: the example of the chapter, and the test of sizes.
-/
import Derived.Test.YtfgomjcdgfagbaaWrite
import Derived.Test.YtfgomjcdgfagbaaPieces
namespace Go.Proofs.Ytfgomjcdgfagbaa
open Go.RowKit Go.BigFrame
set_option linter.unusedVariables false
set_option linter.unusedSimpArgs false
attribute [local go_sem ↓] sliced_cut run_min2 run_max2
attribute [local go_sem] cutA_zero

theorem only_nil_below {w w' : World} (h : Only [] w w') : Below w.heap.size w w' := h.to_below (Nat.le_refl _) (by simp)

/-- How many bytes the pieces hold together. -/
def total (ps : List PieceV) : Nat := (ps.map (·.m)).sum
theorem total_take {ps : List PieceV} {k : Nat} {p : PieceV} (h : ps[k]? = some p) : total (ps.take (k + 1)) = total (ps.take k) + p.m := by
  unfold total
  rw [List.take_add_one, h]
  simp
theorem total_take_le (ps : List PieceV) (k K : Nat) (h : ∀ p, p ∈ ps → p.m ≤ K) : total (ps.take k) ≤ k * K := by
  induction k with
  | zero => simp [total]
  | succ k ih =>
    by_cases hk : k < ps.length
    · have := h _ (List.getElem_mem hk)
      rw [total_take (List.getElem?_eq_getElem hk), Nat.succ_mul]
      omega
    · rw [List.take_of_length_le (by omega)]
      rw [List.take_of_length_le (by omega)] at ih
      exact Nat.le_trans ih (Nat.mul_le_mul_right _ (Nat.le_succ k))
theorem total_take_all (ps : List PieceV) (k : Nat) : total (ps.take k) ≤ total ps := by
  induction ps generalizing k with
  | nil => simp [total]
  | cons p ps ih =>
    cases k with
    | zero => simp [total]
    | succ k =>
      have := ih k
      simp only [List.take_succ_cons, total, List.map_cons, List.sum_cons] at this ⊢
      omega

def Small (n k : Nat) (ps : List PieceV) (v : Bool) : Prop := v = false → n ≤ 300 ∧ k ≤ 300 ∧ total ps ≤ 20000

def TooPost (w : World) (n k : Nat) (ps : List PieceV) (e : Ending) (w' : World) : Prop := ∃ v, e = .returned (.bool v) ∧ w = w' ∧ Small n k ps v

set_option maxHeartbeats 1000000 in
theorem tooLarge_any {w : World} {B : Nat} {S : Option Addr} {n c : Nat} {X : Option Addr} {k d : Nat} {ps : List PieceV} (h : PiecesAt w B X k ps) (ht : k ≤ 300 → total ps ≤ 9223372036854775807) (hnc : n ≤ c) (hc : c ≤ maxLen) (hkd : k ≤ d) (hd : d ≤ maxLen) :
    Calls Try.prog 14 #[.slice S n c, .slice X k d] w fun e w' => TooPost w n k ps e w' := by
  unfold maxLen at hd hc
  by_cases h300 : (300 : Int) < (k : Int)
  · go_enter Try.func14, Try.ntmps14
    go_wp2
    go_loopw [5, 10] (fun s i wr => ∃ (j : Nat) (z : Int), j ≤ k ∧ i = .int .i64 j ∧ s = .int .i64 z ∧ wr = w) (fun _ i _ => k - (intOf i).toNat)
    case atStart => exact ⟨0, 0, Nat.zero_le _, rfl, rfl, rfl⟩
    case round =>
      obtain ⟨j, z, hj, rfl, rfl, rfl⟩ := hrel
      by_cases hlt : j < k
      · obtain ⟨p, g, o, hp, rfl, hg, hcell, hat⟩ := h.piece hlt
        have HH := Lib.hid h
        clear h ht hat hp
        go_wp2
        go_roundw
        case rel => exact ⟨j + 1, _, by omega, by go_num, rfl, trivial⟩
        case measure => simp [intOf]; omega
      · have HH := Lib.hid h
        clear h ht
        go_wp2
        all_goals
          go_ret
          exact ⟨true, rfl, rfl, fun h => by cases h⟩
  · have h300' : (k : Int) ≤ 300 := by omega
    go_enter Try.func14, Try.ntmps14
    go_wp2
    go_loopw [5, 10] (fun s i wr => ∃ (j : Nat) (z : Nat), j ≤ k ∧ i = .int .i64 j ∧ s = .int .i64 z ∧ z = total (ps.take j) ∧ wr = w) (fun _ i _ => k - (intOf i).toNat)
    case atStart => exact ⟨0, 0, Nat.zero_le _, rfl, rfl, by simp [total], rfl⟩
    case round =>
      obtain ⟨j, z, hj, rfl, rfl, hzt, rfl⟩ := hrel
      have hzle : z ≤ 9223372036854775807 := by rw [hzt]; exact Nat.le_trans (total_take_all ps j) (ht (by omega))
      have hz2 : (z : Int) ≤ 9223372036854775807 := by omega
      by_cases hlt : j < k
      · obtain ⟨p, g, o, hp, rfl, hg, hcell, hat⟩ := h.piece hlt
        have HE := Lib.hid (show z + p.m = total (ps.take (j + 1)) by rw [total_take hp, hzt])
        have hm2 : (z : Int) + (p.m : Int) ≤ 9223372036854775807 := by have h1 := HE.out; have h2 := total_take_all ps (j + 1); have h3 := ht (by omega); omega
        have HH := Lib.hid h
        clear h ht hat hp hzt hzle
        go_wp2
        go_roundw
        case rel => exact ⟨j + 1, z + p.m, by omega, by go_num, by go_num, HE.out, trivial⟩
        case measure => simp [intOf]; omega
      · have HE := Lib.hid (show z = total ps by rw [hzt, List.take_of_length_le (by rw [h.1]; omega)])
        have HH := Lib.hid h
        clear h ht hzt hzle
        go_wp2
        all_goals
          go_ret
          refine ⟨_, rfl, rfl, fun hv => ?_⟩
          first
            | (exfalso; simp at hv; done)
            | (simp at hv
               rw [← HE.out]
               omega)

/-! ### The example of the chapter -/
/-- Ints that were just laid. -/
theorem Reads.freshInts (w : World) (l : List Int) (C : Array Value) (hC : C = (vis l).toArray) (t : TypeId) (fr : Nat × Nat) (B : Nat) (hB : w.heap.size < B) :
    Reads (w.alloc (.cells C t fr)) B (some ⟨w.heap.size, 0, none⟩) l.length (vis l) := by
  subst hC
  refine ⟨vis_length l, fun _ => ⟨_, rfl, hB, fun j u hu => ?_⟩⟩
  rw [add_at, World.cell?_alloc_mark]
  simpa using hu

/-- Write, its outcome named. -/
theorem write_to {w : World} {T : List Nat} {r : Nat} {s : WSt} (h : WriterOf w T r s) {X : Option Addr} {m cap B : Nat} {b : List UInt8} (hb : Reads w B X m (vbs b)) (n e : Nat) (s' : WSt) (hs : wstep s b = (n, e, s')) (hq : s.calls < 70368744177664)
    (hB : B ≤ w.heap.size) (hmc : m ≤ cap) (hcm : cap ≤ maxLen) (hX : 0 < m → ∀ ad, X = some ad → ad.block ∉ T) (hsum : s.acc.length + m ≤ 70368744177664) :
    Calls Try.prog 10 #[.pointer (some ⟨r, 0, none⟩), .slice X m cap] w fun e' w' => e' = .returned (.tuple #[.int .i64 n, .int .i64 e]) ∧ Became w T r s' w' := by
  have := write_c h hq hb hB hmc hcm hX hsum
  rw [hs] at this
  exact this
/-- A row that was just laid is none of the writer's blocks. -/
theorem WriterOf.new {w : World} {T : List Nat} {r : Nat} {s : WSt} (h : WriterOf w T r s) {m : Nat} : 0 < m → ∀ ad, some (⟨w.heap.size, 0, none⟩ : Addr) = some ad → ad.block ∉ T := by
  intro _ ad e hk
  injection e with e
  subst e
  have := h.lt _ hk
  simp at this

/-- From the start w0 on, nothing old has turned, and the writer's blocks are new. -/
theorem Became.next {w0 w w' : World} {T : List Nat} {r : Nat} {s : WSt} (h : Became w T r s w') (bl : Below w0.heap.size w0 w) (hT : ∀ k, k ∈ T → w0.heap.size ≤ k) :
    ∃ T', WriterOf w' T' r s ∧ (∀ k, k ∈ T' → w0.heap.size ≤ k) ∧ Below w0.heap.size w0 w' := by
  obtain ⟨T', hW, hk, hO⟩ := h
  exact ⟨T', hW, fun k hk' => (hk k hk').elim (hT k) (fun h1 => Nat.le_trans bl.size h1), Only.below bl hO bl.size hT⟩

set_option maxHeartbeats 1000000 in
theorem alive_any (w : World) :
    Calls Try.prog 15 #[] w fun e w' => e = .returned (.bool true) ∧ Only [] w w' := by
  have kc := fun (w : World) (C : Array Value) (n c : Nat) => Lib.run_convert_bytes_const (P := Try.prog) w 29 5 C n c Try.underlying29 Try.underlying5
  go_enter Try.func15, Try.ntmps15
  go_wp2_with fail
  have hO0 : Only [] w (w.alloc (.cells #[.int .i64 2, .int .i64 0, .int .i64 (-1)] 3)) := (Only.refl _ _).alloc _
  refine (new_c (ns := [2, 0, -1]) (B := w.heap.size + 1) (by have := Reads.freshInts w [2, 0, -1] #[.int .i64 2, .int .i64 0, .int .i64 (-1)] (by rfl) 3 (0, 0) (w.heap.size + 1) (by omega); simpa using this) (by simp) (by omega)).mono ?_
  rintro e w1 ⟨T1, r, rfl, hW1, hT1, hO1⟩
  have bl1 := (only_nil_below hO0).trans ((only_nil_below hO1).mono hO0.size)
  replace hT1 : ∀ k, k ∈ T1 → w.heap.size ≤ k := fun k hk => Nat.le_trans hO0.size (hT1 k hk)
  go_wp2_with fail
  refine (write_to (hW1.alloc _) (b := [97, 98, 99]) (Reads.fresh w1 [97, 98, 99] #[.int .u8 97, .int .u8 98, .int .u8 99] (by rfl) 5 (3, 4) (w1.heap.size + 1) (by omega)) 2 0 ⟨[97, 98], [0, -1], 1, false⟩ rfl (by simp) (by simp) (by simp) (by decide) hW1.new (by simp)).mono ?_
  rintro e w2 ⟨rfl, hB2⟩
  obtain ⟨T2, hW2, hT2, bl2⟩ := hB2.next (bl1.alloc bl1.size _) hT1
  go_wp2_with fail
  refine (write_to (hW2.alloc _) (b := [97, 98, 99]) (Reads.fresh w2 [97, 98, 99] #[.int .u8 97, .int .u8 98, .int .u8 99] (by rfl) 5 (3, 4) (w2.heap.size + 1) (by omega)) 0 0 ⟨[97, 98], [-1], 2, false⟩ rfl (by simp) (by simp) (by simp) (by decide) hW2.new (by simp)).mono ?_
  rintro e w3 ⟨rfl, hB3⟩
  obtain ⟨T3, hW3, hT3, bl3⟩ := hB3.next (bl2.alloc bl2.size _) hT2
  go_wp2_with fail
  refine (write_to (hW3.alloc _) (b := [97, 98, 99]) (Reads.fresh w3 [97, 98, 99] #[.int .u8 97, .int .u8 98, .int .u8 99] (by rfl) 5 (3, 4) (w3.heap.size + 1) (by omega)) 0 9 ⟨[97, 98], [], 3, true⟩ rfl (by simp) (by simp) (by simp) (by decide) hW3.new (by simp)).mono ?_
  rintro e w4 ⟨rfl, hB4⟩
  obtain ⟨T4, hW4, hT4, bl4⟩ := hB4.next (bl3.alloc bl3.size _) hT3
  go_wp2_with fail
  refine (write_to hW4 (b := []) (X := none) (B := 0) Reads.none_ 0 9 ⟨[97, 98], [], 3, true⟩ rfl (by simp) (by simp) (by simp) (by decide) (by simp) (by simp)).mono ?_
  rintro e w5 ⟨rfl, hB5⟩
  obtain ⟨T5, hW5, hT5, bl5⟩ := hB5.next bl4 hT4
  go_wp2_with (go_at_call 12; refine (calls_c hW5).mono ?_; rintro e w' ⟨rfl, rfl⟩)
  go_ret
  exact ⟨rfl, ⟨bl5.os, bl5.tape, bl5.output, bl5.size, fun k hk _ => bl5.block k hk⟩⟩

end Go.Proofs.Ytfgomjcdgfagbaa
