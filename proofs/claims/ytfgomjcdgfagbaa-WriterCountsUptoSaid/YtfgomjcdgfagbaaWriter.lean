/-
  Contracts of the functions of package writer, one a function.
-/
import Derived.Test.YtfgomjcdgfagbaaRows
import Derived.Test.YtfgomjcdgfagbaaCuts
import Derived.Test.YtfgomjcdgfagbaaRegion
import Derived.RegionTactic
import Derived.ChangeAlike
import Derived.Deep.QuietTactic
import Derived.BigQuiet
namespace Go.Proofs.Ytfgomjcdgfagbaa
open Go.RowKit Go.BigFrame
set_option linter.unusedVariables false
set_option linter.unusedSimpArgs false
attribute [local go_sem ↓] sliced_cut run_min2 run_max2
attribute [local go_sem] cutA_zero

/-- What a writer holds: the accepted bytes, the outcomes that are left, the number of those that were used, whether one was negative. -/
structure WSt where
  acc : List UInt8
  left : List Int
  calls : Nat
  failed : Bool

/-- The writer at block r, its blocks among T. -/
structure WriterAt (w : World) (T : List Nat) (r : Nat) (s : WSt) (A : Option Addr) (c : Nat) (L : Option Addr) (d : Nat) : Prop where
  head : Blk w r 47 [.slice A s.acc.length c, .slice L s.left.length d, .int .i64 s.calls, .bool s.failed]
  acc : RowAt w 5 A s.acc.length c (vbs s.acc)
  left : RowAt w 3 L s.left.length d (vis s.left)
  inR : r ∈ T
  inA : ∀ k, k ∈ rowT A → k ∈ T
  inL : ∀ k, k ∈ rowT L → k ∈ T
  lt : ∀ k, k ∈ T → k < w.heap.size
  accMax : s.acc.length ≤ 70368744177664
  callsMax : s.calls ≤ 70368744177664
  leftMax : s.left.length ≤ 17592186044416
def WriterOf (w : World) (T : List Nat) (r : Nat) (s : WSt) : Prop := ∃ A c L d, WriterAt w T r s A c L d

theorem WriterOf.only {w w' : World} {T S : List Nat} {r : Nat} {s : WSt} (h : WriterOf w T r s) (ho : Only S w w') (hS : ∀ k, k ∈ T → k ∉ S) : WriterOf w' T r s := by
  obtain ⟨A, c, L, d, h⟩ := h
  exact ⟨A, c, L, d, h.head.only ho (hS _ h.inR), h.acc.only ho (fun k hk => hS _ (h.inA k hk)), h.left.only ho (fun k hk => hS _ (h.inL k hk)), h.inR, h.inA, h.inL,
    fun k hk => Nat.lt_of_lt_of_le (h.lt k hk) ho.size, h.accMax, h.callsMax, h.leftMax⟩
theorem WriterOf.alloc {w : World} {T : List Nat} {r : Nat} {s : WSt} (h : WriterOf w T r s) (o : Obj) : WriterOf (w.alloc o) T r s := h.only ((Only.refl [] w).alloc o) (by simp)
theorem WriterOf.drewN {w : World} {T : List Nat} {r : Nat} {s : WSt} (h : WriterOf w T r s) (k : Nat) : WriterOf (w.drewN k) T r s := h.only ((Only.refl [] w).drewN k) (by simp)
theorem WriterOf.lt {w : World} {T : List Nat} {r : Nat} {s : WSt} (h : WriterOf w T r s) : ∀ k, k ∈ T → k < w.heap.size := by
  obtain ⟨A, c, L, d, h⟩ := h
  exact h.lt
theorem WriterOf.mem {w : World} {T : List Nat} {r : Nat} {s : WSt} (h : WriterOf w T r s) : r ∈ T := by
  obtain ⟨A, c, L, d, h⟩ := h
  exact h.inR
theorem WriterAt.neA {w : World} {T : List Nat} {r : Nat} {s : WSt} {A : Option Addr} {c : Nat} {L : Option Addr} {d : Nat} (h : WriterAt w T r s A c L d) : r ∉ rowT A := h.acc.ne_blk h.head (by decide)
theorem WriterAt.neL {w : World} {T : List Nat} {r : Nat} {s : WSt} {A : Option Addr} {c : Nat} {L : Option Addr} {d : Nat} (h : WriterAt w T r s A c L d) : r ∉ rowT L := h.left.ne_blk h.head (by decide)
theorem WriterAt.neAL {w : World} {T : List Nat} {r : Nat} {s : WSt} {A : Option Addr} {c : Nat} {L : Option Addr} {d : Nat} (h : WriterAt w T r s A c L d) : ∀ k, k ∈ rowT A → k ∉ rowT L := h.acc.ne h.left (by decide)

theorem info_byte : (Try.prog.info? 5).map (fun i => (i.zero, i.size, i.bytes)) = some (some (.int .u8 0), 1, 1) := by kernel_rfl
theorem info_int : (Try.prog.info? 3).map (fun i => (i.zero, i.size, i.bytes)) = some (some (.int .i64 0), 1, 8) := by kernel_rfl

/-! ### Calls, Left -/
set_option maxHeartbeats 400000 in
theorem calls_c {w : World} {T : List Nat} {r : Nat} {s : WSt} (h : WriterOf w T r s) :
    Calls Try.prog 12 #[.pointer (some ⟨r, 0, none⟩)] w fun e w' => e = .returned (.int .i64 s.calls) ∧ w = w' := by
  obtain ⟨A, c, L, d, h⟩ := h
  have c2 := h.head.cell 2
  go_enter Try.func12, Try.ntmps12
  go_wp2
  go_ret
  exact ⟨rfl, rfl⟩
set_option maxHeartbeats 400000 in
theorem left_c {w : World} {T : List Nat} {r : Nat} {s : WSt} (h : WriterOf w T r s) :
    Calls Try.prog 13 #[.pointer (some ⟨r, 0, none⟩)] w fun e w' => e = .returned (.int .i64 s.left.length) ∧ w = w' := by
  obtain ⟨A, c, L, d, h⟩ := h
  have c1 := h.head.cell 1
  go_enter Try.func13, Try.ntmps13
  go_wp2
  go_ret
  exact ⟨rfl, rfl⟩

/-! ### Bytes -/
set_option maxHeartbeats 400000 in
theorem clone_none (w : World) :
    Calls Try.prog 21 #[.slice none 0 0] w fun e w' => e = .returned (.slice none 0 0) ∧ w = w' := by
  have he : ∀ w : World, (binOp .eql 29 (.slice none 0 0) (.slice none 0 0)).run Try.prog w = .ok (.bool true) w := fun _ => rfl
  go_enter Try.func21, Try.ntmps21
  go_wp2
  go_ret
  exact ⟨rfl, rfl⟩
set_option maxHeartbeats 400000 in
theorem clone_some {w : World} {B : Nat} {g : Addr} {n c : Nat} {l : List UInt8} (hr : Reads w B (some g) n (vbs l)) (hB : B ≤ w.heap.size) (hn : n ≤ 70368744177664) :
    Calls Try.prog 21 #[.slice (some g) n c] w fun e w' => ∃ G d, e = .returned (.slice G n d) ∧ Reads w' w'.heap.size G n (vbs l) ∧ Only [] w w' := by
  obtain ⟨i0, hi, hz0, hz1, hz2⟩ := info_parts info_byte
  have hrow := Lib.hid (RowAt.of_blk (Blk.new w 5 []) (by simp))
  have hsrc := Lib.hid (hr.only' ((Only.refl [] w).alloc (.cells #[] 5)) hB (by simp))
  have hb1 := Lib.hid (show 0 + n ≤ maxLen by unfold maxLen; omega)
  have hb2 := Lib.hid (show (0 + n) * 1 ≤ 140737488355328 by omega)
  clear hr
  have he : ∀ w : World, (binOp .eql 29 (.slice (some g) n c) (.slice none 0 0)).run Try.prog w = .ok (.bool false) w := fun _ => rfl
  go_enter Try.func21, Try.ntmps21
  go_wp2_with (first | (with_reducible refine wp_rowAppend rfl (.tmp 5) (.tmp 6) 29 rfl 5 i0 _ 1 Try.underlying29 hi hz0 hz1 hz2 rfl _ 0 0 [] rfl hrow.out B (some g) n c (vbs l) rfl hsrc.out (vbs_one _) hb1.out hb2.out n (Nat.zero_add n).symm ?_; intro A2 c2 w2 HR2 hO2 HK2))
  go_ret
  refine ⟨A2, c2, rfl, by simpa using HR2.out.reads, ?_⟩
  exact ((Only.refl [] w).alloc _).join hO2 (fun k hk => .inr (by simp [rowT_some] at hk; omega))

set_option maxHeartbeats 400000 in
theorem bytes_any {w : World} {r n c : Nat} {A : Option Addr} {l : List UInt8} (c0 : w.cell? ⟨r, 0, none⟩ = some (.slice A n c)) (hacc : RowAt w 5 A n c (vbs l)) (hmax : n ≤ 70368744177664) :
    Calls Try.prog 11 #[.pointer (some ⟨r, 0, none⟩)] w fun e w' => ∃ G d, e = .returned (.slice G n d) ∧ Reads w' w'.heap.size G n (vbs l) ∧ Only [] w w' := by
  have HA := Lib.hid hacc
  cases A with
  | none =>
    have hc := hacc.none_ rfl
    have hn0 : n = 0 := by have := hacc.le; omega
    subst hc hn0
    clear hacc
    go_enter Try.func11, Try.ntmps11
    go_wp2_with (go_at_call 21; refine (clone_none _).mono ?_; rintro e w' ⟨rfl, rfl⟩)
    go_ret
    exact ⟨none, 0, rfl, HA.out.reads, Only.refl _ _⟩
  | some g =>
    have hcl := Lib.hid (clone_some (c := c) hacc.reads (Nat.le_refl _) hmax)
    clear hacc
    go_enter Try.func11, Try.ntmps11
    go_wp2_with (go_at_call 21; refine hcl.out.mono ?_; rintro e w' ⟨G, d, rfl, hG, hO⟩)
    go_ret
    exact ⟨G, d, rfl, hG, hO⟩
theorem bytes_c {w : World} {T : List Nat} {r : Nat} {s : WSt} (h : WriterOf w T r s) (n : Nat) (hn : n = s.acc.length) :
    Calls Try.prog 11 #[.pointer (some ⟨r, 0, none⟩)] w fun e w' => ∃ G d, e = .returned (.slice G n d) ∧ Reads w' w'.heap.size G n (vbs s.acc) ∧ Only [] w w' := by
  obtain ⟨A, c, L, d, h⟩ := h
  subst hn
  exact bytes_any (h.head.cell 0) h.acc h.accMax

/-! ### Extend, New -/
set_option maxHeartbeats 400000 in
theorem extend_any {w : World} {r n d m c : Nat} {L X : Option Addr} {ls ns : List Value} {B : Nat} {cs : List Value} (hb : Blk w r 47 cs) (c1 : w.cell? ⟨r, 1, none⟩ = some (.slice L n d)) (hL : RowAt w 3 L n d ls) (hr : Reads w B X m ns) (h1 : ∀ u ∈ ns, u.oneCell' = true)
    (hnm : n + m ≤ 17592186044416) (N : Nat) (hN : N = n + m) :
    Calls Try.prog 9 #[.pointer (some ⟨r, 0, none⟩), .slice X m c] w fun e w' => e = .returned (.tuple #[]) ∧ ∃ w1 L' d', RowAt w1 3 L' N d' (ls ++ ns) ∧ Only (rowT L) w w1 ∧
      (∀ k, k ∈ rowT L' → k ∈ rowT L ∨ w.heap.size ≤ k) ∧ w' = w1.setCell ⟨r, 1, none⟩ (.slice L' N d') := by
  obtain ⟨i0, hi, hz0, hz1, hz2⟩ := info_parts info_int
  have hb1 := Lib.hid (show n + m ≤ maxLen by unfold maxLen; omega)
  have hb2 := Lib.hid (show (n + m) * 8 ≤ 140737488355328 by omega)
  have HN := Lib.hid hN
  have HL := Lib.hid hL
  have HR := Lib.hid hr
  have hc := Lib.hid (show ∀ w1, Only (rowT L) w w1 → (w1.cell? ⟨r, 1, none⟩ = some (.slice L n d) ∧ w1.frozen? ⟨r, 1, none⟩ = false) from fun w1 hO => by
    have hb' := hb.only hO (hL.ne_blk hb (by decide))
    exact ⟨by rw [hb'.cell, ← hb.cell]; exact c1, hb'.free _⟩)
  clear hL hr hN
  go_enter Try.func9, Try.ntmps9
  go_wp2_with (first | (with_reducible refine wp_rowAppend rfl (.tmp 10) (.tmp 11) 22 rfl 3 i0 _ 8 Try.underlying22 hi hz0 hz1 hz2 rfl L n d ls rfl HL.out B X m c ns rfl HR.out h1 hb1.out hb2.out N HN.out ?_; intro L2 d2 w2 HR2 hO2 HK2; obtain ⟨hcl, hfr⟩ := hc.out _ hO2))
  go_end0
  exact ⟨rfl, w2, L2, d2, HR2.out, hO2, HK2.out, rfl⟩

/-- What comes out of a call: the writer as s', whatever new blocks it took, and only its own blocks turned. -/
def Became (w : World) (T : List Nat) (r : Nat) (s : WSt) (w' : World) : Prop := ∃ T', WriterOf w' T' r s ∧ (∀ k, k ∈ T' → k ∈ T ∨ w.heap.size ≤ k) ∧ Only T w w'
theorem became_left {w w1 : World} {T : List Nat} {r n d N d' : Nat} {s : WSt} {A : Option Addr} {c : Nat} {L L' : Option Addr} {ns : List Int} (h : WriterAt w T r s A c L d) (hR : RowAt w1 3 L' N d' (vis s.left ++ vis ns))
    (hO : Only (rowT L) w w1) (hk : ∀ k, k ∈ rowT L' → k ∈ rowT L ∨ w.heap.size ≤ k) (hN : N = s.left.length + ns.length) (hm : N ≤ 17592186044416) :
    Became w T r { s with left := s.left ++ ns } (w1.setCell ⟨r, 1, none⟩ (.slice L' N d')) := by
  have hrA := h.neA
  have hrL := h.neL
  have hb := h.head.only hO hrL
  have hA := h.acc.only hO h.neAL
  have e1 : (s.left ++ ns).length = N := by simp; omega
  have hlt := fun k hk => Nat.lt_of_lt_of_le (h.lt k hk) hO.size
  refine ⟨T ++ rowT L', ⟨A, c, L', d', ⟨?_, hA.far (by simpa using hrA) _, ?_, by simp [h.inR], fun k hk => by simp [h.inA k hk], fun k hk => by simp [hk], fun k hk => ?_, h.accMax, h.callsMax, by simpa using by omega⟩⟩, ?_, ?_⟩
  · have := hb.set_ 1 (.slice L' N d')
    rw [show ({ s with left := s.left ++ ns } : WSt).left.length = N from e1]
    simpa using this
  · rw [show ({ s with left := s.left ++ ns } : WSt).left = s.left ++ ns from rfl, e1, vis_append]
    exact hR.far (by simpa using hR.ne_blk hb (by decide)) _
  · simp only [List.mem_append] at hk
    rw [show (w1.setCell ⟨r, 1, none⟩ (.slice L' N d')).heap.size = w1.heap.size by simp [World.setCell]]
    exact hk.elim (hlt k) (hR.lt k)
  · intro k hk'
    simp only [List.mem_append] at hk'
    rcases hk' with h1 | h1
    · exact .inl h1
    · exact (hk k h1).imp (h.inL k) id
  · exact (hO.more h.inL).setCell (.inl h.inR) _
theorem extend_c {w : World} {T : List Nat} {r : Nat} {s : WSt} (h : WriterOf w T r s) {X : Option Addr} {m c : Nat} {ns : List Int} {B : Nat} (hr : Reads w B X m (vis ns)) (hm : s.left.length + m ≤ 17592186044416) :
    Calls Try.prog 9 #[.pointer (some ⟨r, 0, none⟩), .slice X m c] w fun e w' => e = .returned (.tuple #[]) ∧ Became w T r { s with left := s.left ++ ns } w' := by
  obtain ⟨A, c0, L, d, h⟩ := h
  have hnl : ns.length = m := by have := hr.1; rwa [vis_length] at this
  refine (extend_any h.head (h.head.cell 1) h.left hr (vis_one _) hm _ rfl).mono ?_
  rintro e w' ⟨rfl, w1, L', d', hR, hO, hk, rfl⟩
  exact ⟨rfl, became_left (n := 0) h hR hO hk (by omega) hm⟩
set_option maxHeartbeats 400000 in
theorem extend_nil (w : World) (x : Value) :
    Calls Try.prog 9 #[.pointer none, x] w fun e w' => e = .returned (.tuple #[]) ∧ w = w' := by
  go_enter Try.func9, Try.ntmps9
  go_wp2
  refine bodyPost_ret (results_none rfl _ _ _) rfl ?_
  exact ⟨rfl, rfl⟩
set_option maxHeartbeats 400000 in
theorem write_nil (w : World) (x : Value) :
    Calls Try.prog 10 #[.pointer none, x] w fun e w' => e = .returned (.tuple #[.int .i64 0, .int .i64 1]) ∧ w = w' := by
  go_enter Try.func10, Try.ntmps10
  go_wp2
  go_ret2
  exact ⟨rfl, rfl⟩
set_option maxHeartbeats 400000 in
theorem bytes_nil (w : World) :
    Calls Try.prog 11 #[.pointer none] w fun e w' => e = .returned (.slice none 0 0) ∧ w = w' := by
  go_enter Try.func11, Try.ntmps11
  go_wp2
  go_ret
  exact ⟨rfl, rfl⟩
set_option maxHeartbeats 400000 in
theorem calls_nil (w : World) :
    Calls Try.prog 12 #[.pointer none] w fun e w' => e = .returned (.int .i64 0) ∧ w = w' := by
  go_enter Try.func12, Try.ntmps12
  go_wp2
  go_ret
  exact ⟨rfl, rfl⟩
set_option maxHeartbeats 400000 in
theorem left_nil (w : World) :
    Calls Try.prog 13 #[.pointer none] w fun e w' => e = .returned (.int .i64 0) ∧ w = w' := by
  go_enter Try.func13, Try.ntmps13
  go_wp2
  go_ret
  exact ⟨rfl, rfl⟩

set_option maxHeartbeats 400000 in
theorem new_c {w : World} {X : Option Addr} {m c : Nat} {ns : List Int} {B : Nat} (hr : Reads w B X m (vis ns)) (hB : B ≤ w.heap.size) (hm : m ≤ 17592186044416) :
    Calls Try.prog 16 #[.slice X m c] w fun e w' => ∃ T r, e = .returned (.pointer (some ⟨r, 0, none⟩)) ∧ WriterOf w' T r ⟨[], ns, 0, false⟩ ∧ (∀ k, k ∈ T → w.heap.size ≤ k) ∧ Only [] w w' := by
  have hb := Blk.new w 47 [.slice none 0 0, .slice none 0 0, .int .i64 0, .bool false]
  have hw : WriterOf (w.alloc (.cells #[.slice none 0 0, .slice none 0 0, .int .i64 0, .bool false] 47)) [w.heap.size] w.heap.size ⟨[], [], 0, false⟩ :=
    ⟨none, 0, none, 0, by simpa using hb, RowAt.nil _ _, RowAt.nil _ _, by simp, by simp [rowT], by simp [rowT], by simp, by simp, by simp, by simp⟩
  have hext := Lib.hid (extend_c (c := c) hw (hr.only' ((Only.refl [] w).alloc _) hB (by simp)) (by simpa using hm))
  clear hb hw hr
  go_enter Try.func16, Try.ntmps16
  go_wp2_with (go_at_call 9; refine hext.out.mono ?_; rintro e w' ⟨rfl, hB⟩)
  go_ret
  obtain ⟨T', hw', hk, hO⟩ := hB
  refine ⟨T', w.heap.size, rfl, by simpa using hw', fun k hk' => ?_, ((Only.refl [] w).alloc _).join hO (by simp)⟩
  rcases hk k hk' with h1 | h1
  · simp at h1; omega
  · simp at h1; omega

end Go.Proofs.Ytfgomjcdgfagbaa
