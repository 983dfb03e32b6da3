/-
  The contract of (*writer.Writer).Write.
-/
import Derived.Test.YtfgomjcdgfagbaaWriter
import Derived.Test.YtfgomjcdgfagbaaRegion2
namespace Go.Proofs.Ytfgomjcdgfagbaa
open Go.RowKit Go.BigFrame
set_option linter.unusedVariables false
set_option linter.unusedSimpArgs false
attribute [local go_sem ↓] sliced_cut run_min2 run_max2
attribute [local go_sem] cutA_zero

theorem ret_int {k : IntKind} {a b : Int} (h : a = b) : Ending.returned (.int k a) = .returned (.int k b) := by rw [h]

set_option maxHeartbeats 400000 in
theorem next_any {w : World} {r g o n d q : Nat} {x : Int} (c1 : w.cell? ⟨r, 1, none⟩ = some (.slice (some ⟨g, o, none⟩) (n + 1) (d + 1))) (cx : w.cell? ⟨g, o, none⟩ = some (.int .i64 x)) (c2 : w.cell? ⟨r, 2, none⟩ = some (.int .i64 q))
    (f1 : w.frozen? ⟨r, 1, none⟩ = false) (f2 : w.frozen? ⟨r, 2, none⟩ = false) (hn : n ≤ d) (hd : d < 9223372036854775807) (hq : q < 9223372036854775807) :
    Calls Try.prog 20 #[.pointer (some ⟨r, 0, none⟩)] w fun e w' => e = .returned (.int .i64 x) ∧
      w' = (w.setCell ⟨r, 1, none⟩ (.slice (cutA (d + 1) 1 1 (some ⟨g, o, none⟩)) n d)).setCell ⟨r, 2, none⟩ (.int .i64 ((q : Int) + 1)) := by
  go_enter Try.func20, Try.ntmps20
  go_wp2
  go_ret
  exact ⟨rfl, rfl⟩

theorem next_c {w : World} {T : List Nat} {r : Nat} {s : WSt} {A : Option Addr} {c : Nat} {L : Option Addr} {d : Nat} (h : WriterAt w T r s A c L d) {x : Int} {rest : List Int} (hs : s.left = x :: rest) (hq : s.calls < 70368744177664) :
    Calls Try.prog 20 #[.pointer (some ⟨r, 0, none⟩)] w fun e w' => e = .returned (.int .i64 x) ∧
      (∃ L' d', WriterAt w' T r { s with left := rest, calls := s.calls + 1 } A c L' d') ∧ Only [r] w w' := by
  have hle := h.left.le
  have hmax := h.left.max
  have c1 := h.head.cell 1
  have c2 := h.head.cell 2
  have hl : s.left.length = rest.length + 1 := by rw [hs]; rfl
  obtain ⟨g, o, hL, cx⟩ := h.left.cell (j := 0) (u := .int .i64 x) (by rw [hs]; rfl)
  obtain ⟨d, rfl⟩ : ∃ d', d = d' + 1 := ⟨d - 1, by omega⟩
  rw [hl, hL] at c1
  refine (next_any c1 cx c2 (h.head.free 1) (h.head.free 2) (by omega) (by unfold maxLen at hmax; omega) (by omega)).mono ?_
  rintro e w' ⟨rfl, rfl⟩
  have hcut := h.left.cut 1 (by omega)
  rw [hs] at hcut
  simp only [List.length_cons, Nat.add_sub_cancel, vis, List.map_cons, List.drop_succ_cons, List.drop_zero] at hcut
  have hrA := h.neA
  have hrL := h.neL
  have hT := h.lt
  rw [← hL]
  refine ⟨rfl, ⟨cutA (d + 1) 1 1 L, d, ⟨?_, (h.acc.far (by simpa using hrA) _).far (by simpa using hrA) _, ?_, h.inR, h.inA, fun k hk => h.inL k (by rwa [rowT_cut] at hk), fun k hk => by have := hT k hk; simp [World.setCell]; omega, h.accMax, by simp; omega, by have := h.leftMax; simp; omega⟩⟩,
    ((Only.refl _ _).setCell (.inl (by simp)) _).setCell (.inl (by simp)) _⟩
  · have := (h.head.set_ 1 (.slice (cutA (d + 1) 1 1 L) rest.length d)).set_ 2 (.int .i64 ((s.calls : Int) + 1))
    simpa using this
  · exact (hcut.far (by rw [rowT_cut]; simpa using hrL) _).far (by rw [rowT_cut]; simpa using hrL) _

/-- What Write does: the number, the error, the writer behind it. -/
def wstep (s : WSt) (b : List UInt8) : Nat × Nat × WSt :=
  if s.failed then (0, 9, s) else
  match s.left with
  | [] => (0, 10, s)
  | x :: rest => if x < 0 then (0, 9, ⟨s.acc, rest, s.calls + 1, true⟩) else (min x.toNat b.length, 0, ⟨s.acc ++ b.take (min x.toNat b.length), rest, s.calls + 1, false⟩)

theorem Became.refl {w : World} {T : List Nat} {r : Nat} {s : WSt} (h : WriterOf w T r s) : Became w T r s w := ⟨T, h, fun k hk => .inl hk, Only.refl _ _⟩

set_option maxHeartbeats 400000 in
theorem write_failed {w : World} {T : List Nat} {r : Nat} {s : WSt} (h : WriterOf w T r s) (hf : s.failed = true) (x : Value) :
    Calls Try.prog 10 #[.pointer (some ⟨r, 0, none⟩), x] w fun e w' => e = .returned (.tuple #[.int .i64 0, .int .i64 9]) ∧ w = w' := by
  obtain ⟨A, c, L, d, h⟩ := h
  have c3 := h.head.cell 3
  rw [hf] at c3
  go_enter Try.func10, Try.ntmps10
  go_wp2
  go_ret2
  exact ⟨rfl, rfl⟩
set_option maxHeartbeats 400000 in
theorem write_blocked {w : World} {T : List Nat} {r : Nat} {s : WSt} (h : WriterOf w T r s) (hf : s.failed = false) (hl : s.left = []) (x : Value) :
    Calls Try.prog 10 #[.pointer (some ⟨r, 0, none⟩), x] w fun e w' => e = .returned (.tuple #[.int .i64 0, .int .i64 10]) ∧ w = w' := by
  obtain ⟨A, c, L, d, h⟩ := h
  have c3 := h.head.cell 3
  have c1 := h.head.cell 1
  rw [hf] at c3
  rw [hl] at c1
  go_enter Try.func10, Try.ntmps10
  go_wp2
  go_ret2
  exact ⟨rfl, rfl⟩
theorem became_failed {w w1 : World} {T : List Nat} {r : Nat} {s : WSt} {A : Option Addr} {c : Nat} {L : Option Addr} {d : Nat} (h : WriterAt w1 T r s A c L d) (hO : Only [r] w w1) :
    Became w T r { s with failed := true } (w1.setCell ⟨r, 3, none⟩ (.bool true)) := by
  have hrA := h.neA
  have hrL := h.neL
  refine ⟨T, ⟨A, c, L, d, ⟨?_, h.acc.far (by simpa using hrA) _, h.left.far (by simpa using hrL) _, h.inR, h.inA, h.inL, fun k hk => by have := h.lt k hk; simpa [World.setCell] using this, h.accMax, h.callsMax, h.leftMax⟩⟩, fun k hk => .inl hk, ?_⟩
  · have := h.head.set_ 3 (.bool true)
    simpa using this
  · exact (hO.more (by simpa using h.inR)).setCell (.inl h.inR) _
set_option maxHeartbeats 400000 in
theorem write_neg {w : World} {T : List Nat} {r : Nat} {s : WSt} (h : WriterOf w T r s) (hf : s.failed = false) {x : Int} {rest : List Int} (hl : s.left = x :: rest) (hx : x < 0) (hq : s.calls < 70368744177664) (v : Value) :
    Calls Try.prog 10 #[.pointer (some ⟨r, 0, none⟩), v] w fun e w' => e = .returned (.tuple #[.int .i64 0, .int .i64 9]) ∧ Became w T r ⟨s.acc, rest, s.calls + 1, true⟩ w' := by
  obtain ⟨A, c, L, d, h⟩ := h
  have c3 := h.head.cell 3
  have c1 := h.head.cell 1
  rw [hf] at c3
  have HN := Lib.hid (next_c h hl hq)
  rw [hl] at c1
  simp only [List.getElem?_cons_succ, List.getElem?_cons_zero, List.length_cons] at c1
  have HF := Lib.hid hf
  have HL := Lib.hid hl
  clear hf hl
  go_enter Try.func10, Try.ntmps10
  go_wp2_with (go_at_call 20; refine HN.out.mono ?_; rintro e w1 ⟨rfl, ⟨L', d', h1⟩, hO1⟩; have cf := h1.head.free 3; have cc3 : w1.cell? ⟨r, 3, none⟩ = some (.bool s.failed) := h1.head.cell 3)
  go_ret2
  exact ⟨rfl, became_failed h1 hO1⟩

theorem became_acc {w w1 w2 : World} {T : List Nat} {r N : Nat} {s : WSt} {A : Option Addr} {c : Nat} {L : Option Addr} {d : Nat} {A' : Option Addr} {c' : Nat} {b : List UInt8} (h : WriterAt w1 T r s A c L d) (hO : Only T w w1)
    (hR : RowAt w2 5 A' N c' (vbs s.acc ++ vbs b)) (hO2 : Only (rowT A) w1 w2) (hk : ∀ k, k ∈ rowT A' → k ∈ rowT A ∨ w1.heap.size ≤ k) (hN : N = s.acc.length + b.length) (hm : N ≤ 70368744177664) :
    Became w T r { s with acc := s.acc ++ b } (w2.setCell ⟨r, 0, none⟩ (.slice A' N c')) := by
  have hrA := h.neA
  have hrL := h.neL
  have hb := h.head.only hO2 hrA
  have hL := h.left.only hO2 (fun k hk hk' => h.neAL k hk' hk)
  have e1 : (s.acc ++ b).length = N := by simp; omega
  have hlt := fun k hk => Nat.lt_of_lt_of_le (h.lt k hk) hO2.size
  have hs := hO.size
  refine ⟨T ++ rowT A', ⟨A', c', L, d, ⟨?_, ?_, hL.far (by simpa using hrL) _, by simp [h.inR], fun k hk => by simp [hk], fun k hk => by simp [h.inL k hk], fun k hk => ?_, by rw [show ({ s with acc := s.acc ++ b } : WSt).acc.length = N from e1]; exact hm, h.callsMax, h.leftMax⟩⟩, ?_, ?_⟩
  · have := hb.set_ 0 (.slice A' N c')
    rw [show ({ s with acc := s.acc ++ b } : WSt).acc.length = N from e1]
    simpa using this
  · rw [show ({ s with acc := s.acc ++ b } : WSt).acc = s.acc ++ b from rfl, e1, vbs_append]
    exact hR.far (by simpa using hR.ne_blk hb (by decide)) _
  · simp only [List.mem_append] at hk
    rw [show (w2.setCell ⟨r, 0, none⟩ (.slice A' N c')).heap.size = w2.heap.size by simp [World.setCell]]
    exact hk.elim (hlt k) (hR.lt k)
  · intro k hk'
    simp only [List.mem_append] at hk'
    rcases hk' with h1 | h1
    · exact .inl h1
    · rcases hk k h1 with h2 | h2
      · exact .inl (h.inA k h2)
      · exact .inr (by omega)
  · exact (hO.trans (hO2.more h.inA)).setCell (.inl h.inR) _

set_option maxHeartbeats 1000000 in
theorem write_ok {w : World} {T : List Nat} {r : Nat} {s : WSt} (h : WriterOf w T r s) (hf : s.failed = false) {x : Int} {rest : List Int} (hl : s.left = x :: rest) (hx : 0 ≤ x) (hq : s.calls < 70368744177664)
    {X : Option Addr} {m cap B : Nat} {b : List UInt8} (hb : Reads w B X m (vbs b)) (hB : B ≤ w.heap.size) (hmc : m ≤ cap) (hcm : cap ≤ maxLen) (hX : 0 < m → ∀ ad, X = some ad → ad.block ∉ T)
    (k : Nat) (hk : k = min x.toNat m) (hsum : s.acc.length + k ≤ 70368744177664) :
    Calls Try.prog 10 #[.pointer (some ⟨r, 0, none⟩), .slice X m cap] w fun e w' => e = .returned (.tuple #[.int .i64 k, .int .i64 0]) ∧ Became w T r ⟨s.acc ++ b.take k, rest, s.calls + 1, false⟩ w' := by
  obtain ⟨A, c, L, d, h⟩ := h
  have hbl : b.length = m := by have := hb.1; rwa [vbs_length] at this
  have c3 := h.head.cell 3
  have c1 := h.head.cell 1
  rw [hf] at c3
  have HN := Lib.hid (next_c h hl hq)
  rw [hl] at c1
  simp only [List.getElem?_cons_succ, List.getElem?_cons_zero, List.length_cons] at c1
  obtain ⟨i0, hi, hz0, hz1, hz2⟩ := info_parts info_byte
  have hmn : imin x (m : Int) = (k : Int) := by have := imin_spec x (m : Int); omega
  have hkm : k ≤ m := by omega
  have hkc : (k : Int) ≤ (cap : Int) := by omega
  have HF := Lib.hid hf
  have HL := Lib.hid hl
  have HB := Lib.hid hbl
  have HK := Lib.hid hk
  have hr := h.inR
  have hrA := h.inA
  unfold maxLen at hcm
  clear hf hl hbl hk
  go_enter Try.func10, Try.ntmps10
  go_wp2_with (go_at_call 20; refine HN.out.mono ?_; rintro e w1 ⟨rfl, ⟨L', d', h1⟩, hO1⟩)
  have hb1 : Reads w1 B X m (vbs b) := hb.only' hO1 hB (fun h0 ad e => by have := hX h0 ad e; simp; rintro rfl; exact this hr)
  have hOT : Only T w w1.drew := (hO1.more (by simpa using hr)).drew
  have hbD : Reads w1.drew B X m (vbs b) := hb1.only' (Only.refl [] w1).drew (Nat.le_trans hB hO1.size) (by simp)
  have h1D : WriterAt w1.drew T r ⟨s.acc, rest, s.calls + 1, s.failed⟩ A c L' d' := ⟨h1.head, h1.acc.keep (fun _ _ => rfl), h1.left.keep (fun _ _ => rfl), h1.inR, h1.inA, h1.inL, h1.lt, h1.accMax, h1.callsMax, h1.leftMax⟩
  refine region_begin (T := T) (by kernel_rfl) ?_
  have hsz : w1.drew.heap.size = w1.heap.size := rfl
  generalize w1.drew = W at hOT hbD h1D hsz ⊢
  clear h1 hb1
  have c0 : W.cell? ⟨r, 0, none⟩ = some (.slice A s.acc.length c) := h1D.head.cell 0
  refine region_seg [true, true, true, true, false, true, true, true] 5 (by kernel_rfl) (by kernel_rfl) (by kernel_rfl) rfl (fun _ _ d _ _ h => by cases d <;> exact h) ?_
  repeat (first | with_reducible refine wpMask_pass ?_ | (refine wpMask_want (by rfl) (fun K hK => ?_); go_big_quiet_op; refine hK _ ?_; clear hK K))
  with_reducible refine wpMask_nil ?_
  refine region_make 4 (v := .slice A s.acc.length c) (w1 := W) (by kernel_rfl) rfl (by rfl) (by go_simp) (Only.refl _ _) ?_
  simp only [List.getElem_toArray, List.getElem_cons_zero, List.getElem_cons_succ, Act.put, List.setIfInBounds_toArray, List.set_cons_zero, List.set_cons_succ]
  have hcut : Reads W B X k (vbs (b.take k)) := by
    have h1 := hbD.cut_ (k := 0) (m := k) (c := cap) (by omega) hkm hmc
    rwa [cutA_zero, List.drop_zero, Nat.sub_zero, ← vbs_take] at h1
  refine region_rowAppend 8 (by kernel_rfl) rfl (by rfl) (.tmp 38) (.tmp 41) 29 rfl 5 i0 _ 1 Try.underlying29 hi hz0 hz1 hz2 rfl A s.acc.length c (vbs s.acc) rfl h1D.acc B X k cap (vbs (b.take k)) rfl hcut (vbs_one _) (by unfold maxLen; omega) (by omega) (s.acc.length + k) rfl hrA ?_
  intro A2 c2 w2 HR2 hO2 HK2 hT2
  simp only [List.getElem_toArray, List.getElem_cons_zero, List.getElem_cons_succ, Act.put, List.setIfInBounds_toArray, List.set_cons_zero, List.set_cons_succ]
  have hb2 := h1D.head.only hO2 h1D.neA
  have f2 := hb2.free 0
  have c2' := hb2.cell 0
  refine region_seg [false, false, false, false, false, false, false, false, false, true, true] 1 (by kernel_rfl) (by kernel_rfl) (by kernel_rfl) rfl (fun _ _ d _ _ h => by cases d <;> exact h) ?_
  repeat (first | with_reducible refine wpMask_pass ?_ | (refine wpMask_want (by rfl) (fun K hK => ?_); go_big_quiet_op; refine hK _ ?_; clear hK K))
  with_reducible refine wpMask_nil ?_
  refine region_store 11 (w1 := w2.setCell ⟨r, 0, none⟩ (.slice A2 (s.acc.length + k) c2)) (by kernel_rfl) rfl (by rfl) (by go_simp) ((Only.refl _ _).setCell (.inl hr) _) ?_
  refine region_end (by kernel_rfl) ?_
  go_wp2
  go_ret2
  refine ⟨rfl, ?_⟩
  have := became_acc (b := b.take k) h1D hOT HR2.out hO2 HK2.out (by rw [List.length_take, HB.out, Nat.min_eq_left hkm]) hsum
  rw [HF.out] at this
  exact this

theorem write_c {w : World} {T : List Nat} {r : Nat} {s : WSt} (h : WriterOf w T r s) (hq : s.calls < 70368744177664)
    {X : Option Addr} {m cap B : Nat} {b : List UInt8} (hb : Reads w B X m (vbs b)) (hB : B ≤ w.heap.size) (hmc : m ≤ cap) (hcm : cap ≤ maxLen) (hX : 0 < m → ∀ ad, X = some ad → ad.block ∉ T)
    (hsum : s.acc.length + m ≤ 70368744177664) :
    Calls Try.prog 10 #[.pointer (some ⟨r, 0, none⟩), .slice X m cap] w fun e w' => e = .returned (.tuple #[.int .i64 (wstep s b).1, .int .i64 (wstep s b).2.1]) ∧ Became w T r (wstep s b).2.2 w' := by
  have hbl : b.length = m := by have := hb.1; rwa [vbs_length] at this
  unfold wstep
  cases hf : s.failed with
  | true =>
    simp only [if_true]
    refine (write_failed h hf _).mono ?_
    rintro e w' ⟨rfl, rfl⟩
    exact ⟨rfl, Became.refl h⟩
  | false =>
    simp only [Bool.false_eq_true, if_false]
    cases hl : s.left with
    | nil =>
      refine (write_blocked h hf hl _).mono ?_
      rintro e w' ⟨rfl, rfl⟩
      exact ⟨rfl, Became.refl h⟩
    | cons x rest =>
      by_cases hx : x < 0
      · simp only [hx, if_true]
        exact write_neg h hf hl hx hq _
      · simp only [hx, if_false]
        rw [hbl]
        exact write_ok h hf hl (by omega) hq hb hB hmc hcm hX _ rfl (by omega)

end Go.Proofs.Ytfgomjcdgfagbaa
