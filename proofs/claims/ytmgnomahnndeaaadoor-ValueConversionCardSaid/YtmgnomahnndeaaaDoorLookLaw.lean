/-
  The law ValueLookupMatchesReference, walked.
-/
import Derived.Test.YtmgnomahnndeaaaDoorRefEq
import Derived.Test.YtmgnomahnndeaaaDoorAlive9B
namespace Go.Proofs.YtmgnomahnndeaaaDoor
open Go.RowKit Go.BigFrame
set_option linter.unusedVariables false
set_option linter.unusedSimpArgs false

/-- What looking up gives: a value and a number. -/
def lookR (t : VT) (s : ByteArray) : VT × Int :=
  match pathOf s with
  | none => (VT.zero, 11)
  | some l => match t.look l with
    | .ok u => (u, 0)
    | .error c => (VT.zero, c)
theorem zero_in (w : World) (Q : Nat → Prop) : VT.zero.In w Q :=
  .mk _ (by decide) (by decide) (by decide) (by decide) (by decide) rfl (fun h => absurd h (by decide)) (fun h => absurd h (by decide)) (by intro x hx; cases hx) (by intro x hx; cases hx) (by intro x hx; cases hx)
theorem lookR_in {t : VT} {s : ByteArray} {w : World} {Q : Nat → Prop} (h : t.In w Q) : (lookR t s).1.In w Q := by
  unfold lookR
  split
  · exact zero_in _ _
  · split
    · rename_i hl; exact h.look hl
    · exact zero_in _ _
theorem lookR_of {t : VT} {s : ByteArray} {w w' : World} {e : Ending} (h : LookPost t s w e w') : e = .returned (.tuple #[(lookR t s).1.val, .int .i64 (lookR t s).2]) ∧ Bel w w' := by
  obtain ⟨hb, h⟩ := h
  refine ⟨?_, hb⟩
  unfold lookR
  cases hp : pathOf s with
  | none => rw [hp] at h; exact h
  | some l =>
    rw [hp] at h
    simp only at h ⊢
    cases hl : t.look l with
    | ok u => rw [hl] at h; exact h
    | error c => rw [hl] at h; exact h
/-- TooLarge, its number named. -/
theorem tooLarge_n (t : VT) (w : World) (hI : t.In w (· < w.heap.size)) :
    Calls Tryd.prog 15 #[t.val] w fun e w' => ∃ r : Int, 0 ≤ r ∧ r ≤ 1 ∧ e = .returned (.int .i64 r) ∧ Bel w w' :=
  (tooLarge_c t w hI).mono fun e w' ⟨h, hb⟩ => by
    rcases h with h | h
    · exact ⟨0, by omega, by omega, h, hb⟩
    · exact ⟨1, by omega, by omega, h, hb⟩
/-- Equal of a value and itself. -/
theorem refSame_c (t : VT) (w : World) (hI : t.In w (· < w.heap.size)) :
    Calls Tryd.prog 21 #[t.val, t.val] w fun e w' => e = .returned (.bool true) ∧ Bel w w' :=
  (refEqual_c (SizeOf.sizeOf t + 1) t t w (by omega) hI hI).mono fun e w' h => by
    have h' : EqPost _ w e w' := h
    rw [VT.eqv_refl] at h'
    exact h'

set_option maxRecDepth 100000 in
set_option maxHeartbeats 3200000 in
theorem lookLaw (v : VT) (s : ByteArray) (w : World) (hT : MX w) (hv : v.In w (· < w.heap.size)) (hs : s.size ≤ maxLen) :
    Calls Tryd.prog 5 #[v.val, .string s] w fun e w' => e = .returned (.bool true) ∧ Below w.heap.size w w' := by
  have hs' : s.size ≤ 9223372036854775807 := hs
  rw [VT.val_eq]
  have HT := Lib.hid hT
  have HV := Lib.hid hv
  have HA := Lib.hid (fun (W : World) (h : MX W) => alive_c W h)
  have HBX := Lib.hid (Blk.new w 34 v.cs)
  have HW0 : Hid (Bel w (w.alloc (.cells #[.int .i64 v.k, .string v.s, .int .i64 v.n, .bool v.b, .slice v.A v.xs.length v.c, .slice v.F v.vs.length v.d] 34))) := Lib.hid (Bel.alloc _ _)
  have HTL := Lib.hid (fun (W : World) (hb : Bel w W) => show Calls Tryd.prog 15 #[.agg #[.int .i64 v.k, .string v.s, .int .i64 v.n, .bool v.b, .slice v.A v.xs.length v.c, .slice v.F v.vs.length v.d]] W _ from tooLarge_n v W (hv.bel hb))
  clear hT hv hs
  by_cases hbig : 2000 < s.size
  · go_enter Tryd.func5, Tryd.ntmps5
    go_wp2_with (first | (go_at_call 15; refine (HTL.out _ HW0.out).mono ?_; rintro e w1 ⟨r, hr0, hr1, rfl, hb⟩; have HB1 := Lib.hid (HW0.out.trans hb); clear hb) | (go_at_call 9; refine (HA.out _ (HT.out.bel HB1.out)).mono ?_; rintro e w3 ⟨rfl, hb⟩; have HB3 := Lib.hid (HB1.out.trans hb); clear hb))
    all_goals (go_ret; exact ⟨rfl, HB3.out⟩)
  have HL0 : Hid (∀ W, Bel w W → Calls Tryd.prog 22 #[.agg #[.int .i64 v.k, .string v.s, .int .i64 v.n, .bool v.b, .slice v.A v.xs.length v.c, .slice v.F v.vs.length v.d], .string s] W fun e w' => e = .returned (.tuple #[(lookR v s).1.val, .int .i64 (lookR v s).2]) ∧ Bel W w') :=
    Lib.hid (fun W hb => (lookup_c v s W (HT.out.bel hb) (by omega) (HV.out.bel hb)).mono fun e w' h => lookR_of h)
  have HR0 : Hid (∀ W, Bel w W → Calls Tryd.prog 23 #[.agg #[.int .i64 v.k, .string v.s, .int .i64 v.n, .bool v.b, .slice v.A v.xs.length v.c, .slice v.F v.vs.length v.d], .string s] W fun e w' => e = .returned (.tuple #[(lookR v s).1.val, .int .i64 (lookR v s).2]) ∧ Bel W w') :=
    Lib.hid (fun W hb => (refLookup_c v s W (by omega) (HV.out.bel hb)).mono fun e w' h => lookR_of h)
  have hxi0 := lookR_in (s := s) HV.out
  generalize lookR v s = R at HL0 HR0 hxi0
  obtain ⟨x, c⟩ := R
  have HXI := Lib.hid hxi0
  have HL : Hid (∀ W, Bel w W → Calls Tryd.prog 22 #[.agg #[.int .i64 v.k, .string v.s, .int .i64 v.n, .bool v.b, .slice v.A v.xs.length v.c, .slice v.F v.vs.length v.d], .string s] W fun e w' => e = .returned (.tuple #[.agg #[.int .i64 x.k, .string x.s, .int .i64 x.n, .bool x.b, .slice x.A x.xs.length x.c, .slice x.F x.vs.length x.d], .int .i64 c]) ∧ Bel W w') := HL0
  have HR : Hid (∀ W, Bel w W → Calls Tryd.prog 23 #[.agg #[.int .i64 v.k, .string v.s, .int .i64 v.n, .bool v.b, .slice v.A v.xs.length v.c, .slice v.F v.vs.length v.d], .string s] W fun e w' => e = .returned (.tuple #[.agg #[.int .i64 x.k, .string x.s, .int .i64 x.n, .bool x.b, .slice x.A x.xs.length x.c, .slice x.F x.vs.length x.d], .int .i64 c]) ∧ Bel W w') := HR0
  have HE : Hid (∀ W, Bel w W → Calls Tryd.prog 21 #[.agg #[.int .i64 x.k, .string x.s, .int .i64 x.n, .bool x.b, .slice x.A x.xs.length x.c, .slice x.F x.vs.length x.d], .agg #[.int .i64 x.k, .string x.s, .int .i64 x.n, .bool x.b, .slice x.A x.xs.length x.c, .slice x.F x.vs.length x.d]] W fun e w' => e = .returned (.bool true) ∧ Bel W w') := Lib.hid (fun W hb => refSame_c x W (HXI.out.bel hb))
  clear HL0 HR0 hxi0
  have hc0 : (c == c) = true := by simp
  go_enter Tryd.func5, Tryd.ntmps5
  go_wp2_with (first | (go_at_call 15; refine (HTL.out _ HW0.out).mono ?_; rintro e w1 ⟨r, hr0, hr1, rfl, hb⟩; have HB1 := Lib.hid (HW0.out.trans hb); have hB := HBX.out.below hb HBX.out.lt; have HBX1 := Lib.hid hB; obtain ⟨c0, c1, c2, c3, c4, c5⟩ := cs_cells hB; clear hb hB) | (go_at_call 9; (with_reducible refine (HA.out w1 (HT.out.bel HB1.out)).mono ?_); rintro e w3 ⟨rfl, hb⟩; have HB3 := Lib.hid (HB1.out.trans hb); clear hb) | (go_at_call 22; refine (HL.out _ HB1.out).mono ?_; rintro e w4 ⟨rfl, hb⟩; have HB4 := Lib.hid (HB1.out.trans (hb.trans (Bel.alloc w4 (.cells #[.int .i64 x.k, .string x.s, .int .i64 x.n, .bool x.b, .slice x.A x.xs.length x.c, .slice x.F x.vs.length x.d] 34)))); have HX4 := Lib.hid (Blk.new w4 34 x.cs); have hB := (HBX1.out.below hb HBX1.out.lt).alloc (.cells #[.int .i64 x.k, .string x.s, .int .i64 x.n, .bool x.b, .slice x.A x.xs.length x.c, .slice x.F x.vs.length x.d] 34); have HBX4 := Lib.hid hB; clear c0 c1 c2 c3 c4 c5; obtain ⟨c0, c1, c2, c3, c4, c5⟩ := cs_cells hB; clear hb hB) | (go_at_call 23; refine (HR.out _ HB4.out).mono ?_; rintro e w5 ⟨rfl, hb⟩; have HB5 := Lib.hid (HB4.out.trans (hb.trans (Bel.alloc w5 (.cells #[.int .i64 x.k, .string x.s, .int .i64 x.n, .bool x.b, .slice x.A x.xs.length x.c, .slice x.F x.vs.length x.d] 34)))); have HY5 := Lib.hid (Blk.new w5 34 x.cs); have HX5 := Lib.hid ((HX4.out.below hb HX4.out.lt).alloc (.cells #[.int .i64 x.k, .string x.s, .int .i64 x.n, .bool x.b, .slice x.A x.xs.length x.c, .slice x.F x.vs.length x.d] 34)); clear hb c0 c1 c2 c3 c4 c5) | (go_at_call 9; refine (HA.out _ (HT.out.bel HB5.out)).mono ?_; rintro e w6 ⟨rfl, hb⟩; have HB6 := Lib.hid (HB5.out.trans hb); obtain ⟨c0, c1, c2, c3, c4, c5⟩ := cs_cells (HX5.out.below hb HX5.out.lt); obtain ⟨d0, d1, d2, d3, d4, d5⟩ := cs_cells (HY5.out.below hb HY5.out.lt); clear hb) | (go_at_call 21; refine (HE.out _ HB6.out).mono ?_; rintro e w7 ⟨rfl, hb⟩; have HB7 := Lib.hid (HB6.out.trans hb); clear hb))
  · go_ret
    exact ⟨rfl, HB7.out⟩
  · go_ret
    exact ⟨rfl, HB3.out⟩
end Go.Proofs.YtmgnomahnndeaaaDoor
