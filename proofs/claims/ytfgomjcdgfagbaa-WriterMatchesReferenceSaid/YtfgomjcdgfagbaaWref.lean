/-
  Contracts of the reference's functions.
-/
import Derived.Test.YtfgomjcdgfagbaaPair
namespace Go.Proofs.Ytfgomjcdgfagbaa
open Go.RowKit Go.BigFrame
set_option linter.unusedVariables false
set_option linter.unusedSimpArgs false
attribute [local go_sem ↓] sliced_cut run_min2 run_max2
attribute [local go_sem] cutA_zero

/-- The reference writer at block r over the whole schedule 'full', in the state s. -/
structure RefAt (w : World) (T : List Nat) (r : Nat) (full : List Int) (s : WSt) (A : Option Addr) (c : Nat) (L : Option Addr) (d : Nat) : Prop where
  head : Blk w r 41 [.slice L full.length d, .slice A s.acc.length c, .int .i64 s.calls, .bool s.failed]
  acc : RowAt w 5 A s.acc.length c (vbs s.acc)
  sched : RowAt w 3 L full.length d (vis full)
  inR : r ∈ T
  inA : ∀ k, k ∈ rowT A → k ∈ T
  inL : ∀ k, k ∈ rowT L → k ∈ T
  lt : ∀ k, k ∈ T → k < w.heap.size
  rest : s.left = full.drop s.calls
  used : s.calls ≤ full.length
  accMax : s.acc.length ≤ 70368744177664
  max : full.length ≤ 17592186044416
def Rf (r : Nat) (full : List Int) (s : WSt) : World → List Nat → Prop := fun w T => ∃ A c L d, RefAt w T r full s A c L d
theorem rf_thing (r : Nat) (full : List Int) (s : WSt) : IsThing (Rf r full s) := by
  refine ⟨?_, ?_⟩
  · rintro w w' T S ⟨A, c, L, d, h⟩ ho hS
    exact ⟨A, c, L, d, h.head.only ho (hS _ h.inR), h.acc.only ho (fun k hk => hS _ (h.inA k hk)), h.sched.only ho (fun k hk => hS _ (h.inL k hk)), h.inR, h.inA, h.inL,
      fun k hk => Nat.lt_of_lt_of_le (h.lt k hk) ho.size, h.rest, h.used, h.accMax, h.max⟩
  · rintro w T ⟨A, c, L, d, h⟩
    exact h.lt
section
variable {w : World} {T : List Nat} {r : Nat} {full : List Int} {s : WSt} {A : Option Addr} {c : Nat} {L : Option Addr} {d : Nat}
theorem RefAt.neA (h : RefAt w T r full s A c L d) : r ∉ rowT A := h.acc.ne_blk h.head (by decide)
theorem RefAt.neL (h : RefAt w T r full s A c L d) : r ∉ rowT L := h.sched.ne_blk h.head (by decide)
theorem RefAt.only {w' : World} (h : RefAt w T r full s A c L d) (ho : Only [] w w') : RefAt w' T r full s A c L d :=
  ⟨h.head.only ho (by simp), h.acc.only ho (by simp), h.sched.only ho (by simp), h.inR, h.inA, h.inL, fun k hk => Nat.lt_of_lt_of_le (h.lt k hk) ho.size, h.rest, h.used, h.accMax, h.max⟩
end
/-- What comes out of a call. -/
def RefBecame (w : World) (T : List Nat) (r : Nat) (full : List Int) (s : WSt) (w' : World) : Prop := ∃ T', Rf r full s w' T' ∧ (∀ k, k ∈ T' → k ∈ T ∨ w.heap.size ≤ k) ∧ Only T w w'

/-! ### New -/
set_option maxHeartbeats 400000 in
theorem ref_new {w : World} {X : Option Addr} {m c : Nat} {ns : List Int} {B : Nat} (hr : Reads w B X m (vis ns)) (hB : B ≤ w.heap.size) (hm : m ≤ 17592186044416) :
    Calls Try.prog 17 #[.slice X m c] w fun e w' => ∃ T r, e = .returned (.pointer (some ⟨r, 0, none⟩)) ∧ Rf r ns ⟨[], ns, 0, false⟩ w' T ∧ (∀ k, k ∈ T → w.heap.size ≤ k) ∧ Only [] w w' := by
  obtain ⟨i0, hi, hz0, hz1, hz2⟩ := info_parts info_int
  have hnl : ns.length = m := by have := hr.1; rwa [vis_length] at this
  have hrow := Lib.hid (RowAt.of_blk (Blk.new w 3 []) (by simp))
  have hsrc := Lib.hid (hr.only' ((Only.refl [] w).alloc (.cells #[] 3)) hB (by simp))
  have hb1 := Lib.hid (show 0 + m ≤ maxLen by unfold maxLen; omega)
  have hb2 := Lib.hid (show (0 + m) * 8 ≤ 140737488355328 by omega)
  have HNL := Lib.hid hnl
  clear hr hnl
  go_enter Try.func17, Try.ntmps17
  go_wp2_with (first | ((with_reducible refine wp_rowAppend rfl (.tmp 3) (.tmp 4) 22 rfl 3 i0 _ 8 Try.underlying22 hi hz0 hz1 hz2 rfl _ 0 0 [] rfl hrow.out B X m c (vis ns) rfl hsrc.out (vis_one _) hb1.out hb2.out m (Nat.zero_add m).symm ?_); intro A2 c2 w2 HR2 hO2 HK2))
  go_ret
  have hO : Only [] w w2 := ((Only.refl [] w).alloc _).join hO2 (fun k hk => .inr (by simp [rowT_some] at hk; omega))
  have hrow2 := HR2.out.alloc (.cells #[.slice A2 m c2, .slice none 0 0, .int .i64 0, .bool false] 41)
  rw [List.nil_append] at hrow2
  have hs2 := hO.size
  refine ⟨w2.heap.size :: rowT A2, w2.heap.size, rfl, ⟨none, 0, A2, c2, ⟨?_, RowAt.nil _ _, by rw [HNL.out]; exact hrow2, by simp, by simp [rowT], fun k hk => by simp [hk], fun k hk => ?_, by simp, by simp, by simp, by rw [HNL.out]; exact hm⟩⟩, fun k hk => ?_, hO.alloc _⟩
  · have := Blk.new w2 41 [.slice A2 m c2, .slice none 0 0, .int .i64 0, .bool false]
    rw [HNL.out]
    simpa using this
  · simp only [List.mem_cons] at hk
    rcases hk with rfl | hk
    · simp
    · exact hrow2.lt k hk
  · simp only [List.mem_cons] at hk
    rcases hk with rfl | hk
    · omega
    · rcases HK2.out k hk with h | h
      · simp [rowT_some] at h; omega
      · simp at h; omega

/-! ### Extend -/
theorem ref_extended {w w1 : World} {T : List Nat} {r N d' : Nat} {full : List Int} {s : WSt} {A : Option Addr} {c : Nat} {L L' : Option Addr} {d : Nat} {ns : List Int} (h : RefAt w T r full s A c L d) (hO : Only [] w w1)
    (hR : RowAt w1 3 L' N d' (vis full ++ vis ns)) (hk : ∀ k, k ∈ rowT L' → w.heap.size ≤ k) (hN : N = full.length + ns.length) (hm : N ≤ 17592186044416) :
    RefBecame w T r (full ++ ns) { s with left := s.left ++ ns } (w1.setCell ⟨r, 0, none⟩ (.slice L' N d')) := by
  have h1 := h.only hO
  have hrA := h1.neA
  have e1 : (full ++ ns).length = N := by simp; omega
  refine ⟨T ++ rowT L', ⟨A, c, L', d', ⟨?_, h1.acc.far (by simpa using hrA) _, ?_, by simp [h.inR], fun k hk => by simp [h.inA k hk], fun k hk => by simp [hk], fun k hk => ?_, ?_, ?_, h.accMax, by omega⟩⟩, fun k hk' => ?_, (hO.more (by simp)).setCell (.inl h.inR) _⟩
  · have := h1.head.set_ 0 (.slice L' N d')
    rw [e1]
    simpa using this
  · rw [e1, vis_append]
    exact hR.far (by simpa using hR.ne_blk h1.head (by decide)) _
  · simp only [List.mem_append] at hk
    rw [show (w1.setCell ⟨r, 0, none⟩ (.slice L' N d')).heap.size = w1.heap.size by simp [World.setCell]]
    exact hk.elim (h1.lt k) (hR.lt k)
  · have := h.rest
    have := h.used
    simp only
    rw [List.drop_append_of_le_length h.used, h.rest]
  · have := h.used
    simp
    omega
  · simp only [List.mem_append] at hk'
    exact hk'.imp id (hk k)
set_option maxHeartbeats 400000 in
theorem ref_extend {w : World} {T : List Nat} {r : Nat} {full : List Int} {s : WSt} (h : Rf r full s w T) {X : Option Addr} {m c : Nat} {ns : List Int} {B : Nat} (hr : Reads w B X m (vis ns)) (hB : B ≤ w.heap.size) (hm : full.length + m ≤ 17592186044416) :
    Calls Try.prog 18 #[.pointer (some ⟨r, 0, none⟩), .slice X m c] w fun e w' => e = .returned (.tuple #[]) ∧ RefBecame w T r (full ++ ns) { s with left := s.left ++ ns } w' := by
  obtain ⟨A, c0, L, d, h⟩ := h
  obtain ⟨i0, hi, hz0, hz1, hz2⟩ := info_parts info_int
  have hnl : ns.length = m := by have := hr.1; rwa [vis_length] at this
  obtain ⟨f, hf⟩ : ∃ f, f = full.length := ⟨_, rfl⟩
  have hO1 : Only [] w (w.alloc (.cells #[] 3)) := (Only.refl [] w).alloc _
  have h1 := h.only hO1
  have c0' : (w.alloc (.cells #[] 3)).cell? ⟨r, 0, none⟩ = some (.slice L f d) := by rw [hf]; exact h1.head.cell 0
  have hrow := Lib.hid (RowAt.of_blk (Blk.new w 3 []) (by simp))
  have hsrc : Hid (Reads (w.alloc (.cells #[] 3)) (w.alloc (.cells #[] 3)).heap.size L f (vis full)) := by rw [hf]; exact h1.sched.reads
  have hb1 := Lib.hid (show 0 + f ≤ maxLen by unfold maxLen; omega)
  have hb2 := Lib.hid (show (0 + f) * 8 ≤ 140737488355328 by omega)
  have hb3 := Lib.hid (show f + m ≤ maxLen by unfold maxLen; omega)
  have hb4 := Lib.hid (show (f + m) * 8 ≤ 140737488355328 by omega)
  have HH := Lib.hid h
  have HO1 := Lib.hid hO1
  have HR := Lib.hid hr
  have HNL := Lib.hid hnl
  have HF := Lib.hid hf
  clear h h1 hr hnl hf hO1
  go_enter Try.func18, Try.ntmps18
  go_wp2_with (first
    | ((with_reducible refine wp_rowAppend rfl (.tmp 5) (.tmp 9) 22 rfl 3 i0 _ 8 Try.underlying22 hi hz0 hz1 hz2 rfl _ 0 0 [] rfl hrow.out _ L f d (vis full) rfl hsrc.out (vis_one _) hb1.out hb2.out f (Nat.zero_add f).symm ?_); intro A1 c1 w1 HR1 hO2 HK1; have hO3 : Only [] w w1 := HO1.out.join hO2 (fun k hk => .inr (by simp [rowT_some] at hk; omega)); have hsrc2 := Lib.hid (HR.out.only' hO3 hB (by simp)))
    | ((with_reducible refine wp_rowAppend rfl (.tmp 10) (.tmp 11) 22 rfl 3 i0 _ 8 Try.underlying22 hi hz0 hz1 hz2 rfl A1 f c1 _ rfl HR1.out B X m c (vis ns) rfl hsrc2.out (vis_one _) hb3.out hb4.out (f + m) rfl ?_); intro A2 c2 w2 HR2 hO4 HK2; have hO5 : Only [] w w2 := hO3.join hO4 (fun k hk => .inr ((HK1.out k hk).elim (fun h => by simp [rowT_some] at h; omega) (fun h => by simp at h; omega))); have hcl : w2.cell? ⟨r, 0, none⟩ = some (.slice L f d) := (by rw [HF.out]; exact (HH.out.only hO5).head.cell 0); have hfr := (HH.out.only hO5).head.free 0))
  go_end0
  refine ⟨rfl, ref_extended HH.out hO5 (by have := HR2.out; rwa [List.nil_append] at this) (fun k hk => ?_) (by rw [HF.out, HNL.out]) (by rw [HF.out]; exact hm)⟩
  rcases HK2.out k hk with h | h
  · rcases HK1.out k h with h | h
    · simp [rowT_some] at h; omega
    · simp at h; omega
  · have := hO3.size
    omega

end Go.Proofs.Ytfgomjcdgfagbaa
