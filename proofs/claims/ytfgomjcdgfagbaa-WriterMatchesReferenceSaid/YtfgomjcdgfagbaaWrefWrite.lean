/-
  The contract of the reference's Write.
-/
import Derived.Test.YtfgomjcdgfagbaaWref
namespace Go.Proofs.Ytfgomjcdgfagbaa
open Go.RowKit Go.BigFrame
set_option linter.unusedVariables false
set_option linter.unusedSimpArgs false
attribute [local go_sem ↓] sliced_cut run_min2 run_max2
attribute [local go_sem] cutA_zero

theorem RefBecame.same {w w' : World} {T : List Nat} {r : Nat} {full : List Int} {s : WSt} (h : Rf r full s w T) (hO : Only [] w w') : RefBecame w T r full s w' := ⟨T, (rf_thing r full s).only h hO (by simp), fun k hk => .inl hk, hO.more (by simp)⟩

set_option maxHeartbeats 400000 in
theorem rwrite_failed {w : World} {T : List Nat} {r : Nat} {full : List Int} {s : WSt} (h : Rf r full s w T) (hf : s.failed = true) (x : Value) :
    Calls Try.prog 19 #[.pointer (some ⟨r, 0, none⟩), x] w fun e w' => e = .returned (.tuple #[.int .i64 0, .int .i64 9]) ∧ Only [] w w' := by
  obtain ⟨A, c, L, d, h⟩ := h
  have c3 := h.head.cell 3
  rw [hf] at c3
  go_enter Try.func19, Try.ntmps19
  go_wp2
  go_ret2
  exact ⟨rfl, Only.refl _ _⟩
set_option maxHeartbeats 400000 in
theorem rwrite_blocked {w : World} {T : List Nat} {r : Nat} {full : List Int} {s : WSt} (h : Rf r full s w T) (hf : s.failed = false) (hl : s.left = []) (x : Value) :
    Calls Try.prog 19 #[.pointer (some ⟨r, 0, none⟩), x] w fun e w' => e = .returned (.tuple #[.int .i64 0, .int .i64 10]) ∧ Only [] w w' := by
  obtain ⟨A, c, L, d, h⟩ := h
  have c3 := h.head.cell 3
  rw [hf] at c3
  have hq : full.length ≤ s.calls := by
    have h1 := h.rest
    rw [hl] at h1
    have := congrArg List.length h1
    simp at this
    omega
  have hq2 : (full.length : Int) ≤ (s.calls : Int) := by omega
  have s0 : ∀ q, (w.drewN q).cell? ⟨r, 0, none⟩ = some (.slice L full.length d) := fun q => h.head.cell 0
  have c0 : w.cell? ⟨r, 0, none⟩ = some (.slice L full.length d) := h.head.cell 0
  have c2 : w.cell? ⟨r, 2, none⟩ = some (.int .i64 s.calls) := h.head.cell 2
  clear h hq hl hf
  go_enter Try.func19, Try.ntmps19
  go_wp2_with fail
  go_quiet (fail)
  go_wp2_with fail
  go_ret2
  exact ⟨rfl, (Only.refl _ _).drewN _⟩

theorem ref_used {w w1 : World} {T : List Nat} {r : Nat} {full : List Int} {s : WSt} {A : Option Addr} {c : Nat} {L : Option Addr} {d : Nat} (h : RefAt w T r full s A c L d) {x : Int} {rest : List Int} (hl : s.left = x :: rest) (hO : Only [] w w1) :
    RefAt (w1.setCell ⟨r, 2, none⟩ (.int .i64 ((s.calls : Int) + 1))) T r full ⟨s.acc, rest, s.calls + 1, s.failed⟩ A c L d := by
  have h1 := h.only hO
  have hrA := h1.neA
  have hrL := h1.neL
  have hd := h1.rest
  rw [hl] at hd
  have hlt : s.calls < full.length := by
    have := congrArg List.length hd
    simp at this
    omega
  refine ⟨?_, h1.acc.far (by simpa using hrA) _, h1.sched.far (by simpa using hrL) _, h1.inR, h1.inA, h1.inL, fun k hk => by have := h1.lt k hk; simpa [World.setCell] using this, ?_, by simp only; omega, h1.accMax, h1.max⟩
  · have := h1.head.set_ 2 (.int .i64 ((s.calls : Int) + 1))
    simpa using this
  · simp only
    rw [List.drop_eq_getElem_cons hlt] at hd
    injection hd
theorem ref_fails {w : World} {T : List Nat} {r : Nat} {full : List Int} {s : WSt} {A : Option Addr} {c : Nat} {L : Option Addr} {d : Nat} (h : RefAt w T r full s A c L d) :
    RefAt (w.setCell ⟨r, 3, none⟩ (.bool true)) T r full ⟨s.acc, s.left, s.calls, true⟩ A c L d := by
  have hrA := h.neA
  have hrL := h.neL
  refine ⟨?_, h.acc.far (by simpa using hrA) _, h.sched.far (by simpa using hrL) _, h.inR, h.inA, h.inL, fun k hk => by have := h.lt k hk; simpa [World.setCell] using this, h.rest, h.used, h.accMax, h.max⟩
  have := h.head.set_ 3 (.bool true)
  simpa using this

set_option maxHeartbeats 400000 in
theorem rwrite_neg {w : World} {T : List Nat} {r : Nat} {full : List Int} {s : WSt} (h : Rf r full s w T) (hf : s.failed = false) {x : Int} {rest : List Int} (hl : s.left = x :: rest) (hx : x < 0) (v : Value) :
    Calls Try.prog 19 #[.pointer (some ⟨r, 0, none⟩), v] w fun e w' => e = .returned (.tuple #[.int .i64 0, .int .i64 9]) ∧ RefBecame w T r full ⟨s.acc, rest, s.calls + 1, true⟩ w' := by
  obtain ⟨A, c, L, d, h⟩ := h
  have c3 := h.head.cell 3
  rw [hf] at c3
  have hd := h.rest
  rw [hl] at hd
  have hq : s.calls < full.length := by
    have := congrArg List.length hd
    simp at this
    omega
  have hx2 : (vis full)[s.calls]? = some (.int .i64 x) := by
    rw [List.drop_eq_getElem_cons hq] at hd
    injection hd with hd
    rw [vis_getElem?, List.getElem?_eq_getElem hq, hd]
    rfl
  obtain ⟨g, o, hL, hcx⟩ := h.sched.cell hx2
  subst hL
  have hdc := h.sched.le
  have hdm := h.sched.max
  unfold maxLen at hdm
  have hq2 : (s.calls : Int) < (full.length : Int) := by omega
  have hq3 : s.calls < 9223372036854775807 := by omega
  have c0 : w.cell? ⟨r, 0, none⟩ = some (.slice (some ⟨g, o, none⟩) full.length d) := h.head.cell 0
  have c2 : w.cell? ⟨r, 2, none⟩ = some (.int .i64 s.calls) := h.head.cell 2
  have f2 := h.head.free 2
  have f3 := h.head.free 3
  have HH := Lib.hid h
  have HL := Lib.hid hl
  have CF : Hid (∀ w', Only [] w w' → w'.cell? ⟨r, 0, none⟩ = some (.slice (some ⟨g, o, none⟩) full.length d) ∧ w'.cell? ⟨r, 2, none⟩ = some (.int .i64 s.calls) ∧ w'.cell? ⟨g, o + s.calls, none⟩ = some (.int .i64 x)) := fun w' hO => by
    have h' := HH.out.only hO
    refine ⟨h'.head.cell 0, h'.head.cell 2, ?_⟩
    obtain ⟨g', o', e1, hc⟩ := h'.sched.cell hx2
    injection e1 with e1
    injection e1 with e1 e2
    subst e1 e2
    exact hc
  clear h hl hf hd hx2 c0 c2 hcx f2 f3
  go_enter Try.func19, Try.ntmps19
  go_wp2_with fail
  refine region_begin (T := []) (by kernel_rfl) ?_
  have hO1 : Only [] w w.drew := (Only.refl [] w).drew
  generalize w.drew = W1 at hO1 ⊢
  have t0 := fun x : Later [] W1 => (CF.out x.w (hO1.trans x.h)).1
  have t2 := fun x : Later [] W1 => (CF.out x.w (hO1.trans x.h)).2.1
  have tx := fun x : Later [] W1 => (CF.out x.w (hO1.trans x.h)).2.2
  refine region_seg [true, true, true, true, true, true, true, true, true, true] 0 (by kernel_rfl) (by kernel_rfl) (by kernel_rfl) rfl (fun _ _ d _ _ h => by cases d <;> exact h) ?_
  repeat (first | with_reducible refine wpMask_pass ?_ | (refine wpMask_want (by rfl) (fun K hK => ?_); go_big_quiet_op; refine hK _ ?_; clear hK K))
  with_reducible refine wpMask_nil ?_
  refine region_end (by kernel_rfl) ?_
  clear t0 t2 tx
  clear c3
  rw [show decide (full.length ≤ s.calls) = false by simp; omega]
  go_wp2_with fail
  refine region_begin (T := []) (by kernel_rfl) ?_
  have hO2 : Only [] w W1.drew := hO1.drew
  generalize W1.drew = W2 at hO2 ⊢
  have t0 := fun x : Later [] W2 => (CF.out x.w (hO2.trans x.h)).1
  have t2 := fun x : Later [] W2 => (CF.out x.w (hO2.trans x.h)).2.1
  have tx := fun x : Later [] W2 => (CF.out x.w (hO2.trans x.h)).2.2
  refine region_seg [true, true, true, true, true, true, true, true, true, true, true] 0 (by kernel_rfl) (by kernel_rfl) (by kernel_rfl) rfl (fun _ _ d _ _ h => by cases d <;> exact h) ?_
  repeat (first | with_reducible refine wpMask_pass ?_ | (refine wpMask_want (by rfl) (fun K hK => ?_); go_big_quiet_op; refine hK _ ?_; clear hK K))
  with_reducible refine wpMask_nil ?_
  refine region_end (by kernel_rfl) ?_
  clear t0 t2 tx
  have f2 := (HH.out.only hO2).head.free 2
  have f3 := (HH.out.only hO2).head.free 3
  have e2 : W2.cell? ⟨r, 2, none⟩ = some (.int .i64 s.calls) := (HH.out.only hO2).head.cell 2
  have e3 : W2.cell? ⟨r, 3, none⟩ = some (.bool s.failed) := (HH.out.only hO2).head.cell 3
  go_wp2_with fail
  go_ret2
  refine ⟨rfl, T, ⟨A, c, _, d, ref_fails (ref_used HH.out HL.out hO2)⟩, fun k hk => .inl hk, ((hO2.more (by simp)).setCell (.inl HH.out.inR) _).setCell (.inl HH.out.inR) _⟩

theorem ref_took {w w1 w2 : World} {T : List Nat} {r N : Nat} {full : List Int} {s : WSt} {A : Option Addr} {c : Nat} {L : Option Addr} {d : Nat} {A' : Option Addr} {c' : Nat} {b : List UInt8} (h : RefAt w1 T r full s A c L d) (hO : Only T w w1)
    (hO2 : Only [] w1 w2) (hR : RowAt w2 5 A' N c' (vbs s.acc ++ vbs b)) (hk : ∀ k, k ∈ rowT A' → w1.heap.size ≤ k) (hN : N = s.acc.length + b.length) (hm : N ≤ 70368744177664) :
    RefBecame w T r full { s with acc := s.acc ++ b } (w2.setCell ⟨r, 1, none⟩ (.slice A' N c')) := by
  have h1 := h.only hO2
  have hrL := h1.neL
  have e1 : (s.acc ++ b).length = N := by simp; omega
  have hs := hO.size
  refine ⟨T ++ rowT A', ⟨A', c', L, d, ⟨?_, ?_, h1.sched.far (by simpa using hrL) _, by simp [h.inR], fun k hk => by simp [hk], fun k hk => by simp [h.inL k hk], fun k hk => ?_, h.rest, h.used, by rw [show ({ s with acc := s.acc ++ b } : WSt).acc.length = N from e1]; exact hm, h.max⟩⟩, fun k hk' => ?_, (hO.trans (hO2.more (by simp))).setCell (.inl h.inR) _⟩
  · have := h1.head.set_ 1 (.slice A' N c')
    rw [show ({ s with acc := s.acc ++ b } : WSt).acc.length = N from e1]
    simpa using this
  · rw [show ({ s with acc := s.acc ++ b } : WSt).acc = s.acc ++ b from rfl, e1, vbs_append]
    exact hR.far (by simpa using hR.ne_blk h1.head (by decide)) _
  · simp only [List.mem_append] at hk
    rw [show (w2.setCell ⟨r, 1, none⟩ (.slice A' N c')).heap.size = w2.heap.size by simp [World.setCell]]
    exact hk.elim (h1.lt k) (hR.lt k)
  · simp only [List.mem_append] at hk'
    exact hk'.imp id (fun h => by have := hk k h; omega)

set_option maxRecDepth 100000 in
set_option maxHeartbeats 1000000 in
theorem rwrite_ok {w : World} {T : List Nat} {r : Nat} {full : List Int} {s : WSt} (h : Rf r full s w T) (hf : s.failed = false) {x : Int} {rest : List Int} (hl : s.left = x :: rest) (hx : 0 ≤ x)
    {X : Option Addr} {m cap B : Nat} {b : List UInt8} (hb : Reads w B X m (vbs b)) (hB : B ≤ w.heap.size) (hmc : m ≤ cap) (hcm : cap ≤ maxLen) (hX : 0 < m → ∀ ad, X = some ad → ad.block ∉ T)
    (k : Nat) (hk : k = min x.toNat m) (hsum : s.acc.length + k ≤ 70368744177664) :
    Calls Try.prog 19 #[.pointer (some ⟨r, 0, none⟩), .slice X m cap] w fun e w' => e = .returned (.tuple #[.int .i64 k, .int .i64 0]) ∧ RefBecame w T r full ⟨s.acc ++ b.take k, rest, s.calls + 1, false⟩ w' := by
  obtain ⟨A, c, L, d, h⟩ := h
  obtain ⟨i0, hi, hz0, hz1, hz2⟩ := info_parts info_byte
  have hbl : b.length = m := by have := hb.1; rwa [vbs_length] at this
  have c3 := h.head.cell 3
  rw [hf] at c3
  have hd := h.rest
  rw [hl] at hd
  have hq : s.calls < full.length := by
    have := congrArg List.length hd
    simp at this
    omega
  have hx2 : (vis full)[s.calls]? = some (.int .i64 x) := by
    rw [List.drop_eq_getElem_cons hq] at hd
    injection hd with hd
    rw [vis_getElem?, List.getElem?_eq_getElem hq, hd]
    rfl
  obtain ⟨g, o, hL, hcx⟩ := h.sched.cell hx2
  subst hL
  have hdc := h.sched.le
  have hdm := h.sched.max
  have hamax := h.accMax
  unfold maxLen at hdm hcm
  have hq2 : (s.calls : Int) < (full.length : Int) := by omega
  have hq3 : s.calls < 9223372036854775807 := by omega
  have c0 : w.cell? ⟨r, 0, none⟩ = some (.slice (some ⟨g, o, none⟩) full.length d) := h.head.cell 0
  have c2 : w.cell? ⟨r, 2, none⟩ = some (.int .i64 s.calls) := h.head.cell 2
  have f2 := h.head.free 2
  have hr := h.inR
  have HH := Lib.hid h
  have HL := Lib.hid hl
  have HF := Lib.hid hf
  have HB := Lib.hid hbl
  have HRB := Lib.hid hb
  have CF : Hid (∀ w', Only [] w w' → w'.cell? ⟨r, 0, none⟩ = some (.slice (some ⟨g, o, none⟩) full.length d) ∧ w'.cell? ⟨r, 2, none⟩ = some (.int .i64 s.calls) ∧ w'.cell? ⟨g, o + s.calls, none⟩ = some (.int .i64 x)) := fun w' hO => by
    have h' := HH.out.only hO
    refine ⟨h'.head.cell 0, h'.head.cell 2, ?_⟩
    obtain ⟨g', o', e1, hc⟩ := h'.sched.cell hx2
    injection e1 with e1
    injection e1 with e1 e2
    subst e1 e2
    exact hc
  have hkm : k ≤ m := by omega
  have h3 : ((m : Int) < x ∧ k = m) ∨ (¬ (m : Int) < x ∧ (k : Int) = x) := by omega
  have hx' : ¬ x < 0 := by omega
  have HK := Lib.hid hk
  clear h hl hf hd hx2 hb hbl hk c0 c2 hcx f2 hx
  rcases h3 with ⟨h3, rfl⟩ | ⟨h3, rfl⟩
  all_goals
    go_enter Try.func19, Try.ntmps19
    go_wp2_with fail
    refine region_begin (T := []) (by kernel_rfl) ?_
    have hO1 : Only [] w w.drew := (Only.refl [] w).drew
    generalize w.drew = W1 at hO1 ⊢
    have t0 := fun x : Later [] W1 => (CF.out x.w (hO1.trans x.h)).1
    have t2 := fun x : Later [] W1 => (CF.out x.w (hO1.trans x.h)).2.1
    have tx := fun x : Later [] W1 => (CF.out x.w (hO1.trans x.h)).2.2
    refine region_seg [true, true, true, true, true, true, true, true, true, true] 0 (by kernel_rfl) (by kernel_rfl) (by kernel_rfl) rfl (fun _ _ d _ _ h => by cases d <;> exact h) ?_
    repeat (first | with_reducible refine wpMask_pass ?_ | (refine wpMask_want (by rfl) (fun K hK => ?_); go_big_quiet_op; refine hK _ ?_; clear hK K))
    with_reducible refine wpMask_nil ?_
    refine region_end (by kernel_rfl) ?_
    clear t0 t2 tx
    clear c3
    rw [show decide (full.length ≤ s.calls) = false by simp; omega]
    go_wp2_with fail
    refine region_begin (T := []) (by kernel_rfl) ?_
    have hO2 : Only [] w W1.drew := hO1.drew
    generalize W1.drew = W2 at hO2 ⊢
    have t0 := fun x : Later [] W2 => (CF.out x.w (hO2.trans x.h)).1
    have t2 := fun x : Later [] W2 => (CF.out x.w (hO2.trans x.h)).2.1
    have tx := fun x : Later [] W2 => (CF.out x.w (hO2.trans x.h)).2.2
    refine region_seg [true, true, true, true, true, true, true, true, true, true, true] 0 (by kernel_rfl) (by kernel_rfl) (by kernel_rfl) rfl (fun _ _ d _ _ h => by cases d <;> exact h) ?_
    repeat (first | with_reducible refine wpMask_pass ?_ | (refine wpMask_want (by rfl) (fun K hK => ?_); go_big_quiet_op; refine hK _ ?_; clear hK K))
    with_reducible refine wpMask_nil ?_
    refine region_end (by kernel_rfl) ?_
    clear t0 t2 tx
    have f2 := (HH.out.only hO2).head.free 2
    have e2 : W2.cell? ⟨r, 2, none⟩ = some (.int .i64 s.calls) := (HH.out.only hO2).head.cell 2
    go_wp2_with fail
    clear e2 f2
    have hRU := (ref_used HH.out HL.out hO2).only ((Only.refl [] _).drew)
    have hOT : Only T w (W2.setCell ⟨r, 2, none⟩ (.int .i64 ((s.calls : Int) + 1))).drew := ((hO2.more (by simp)).setCell (.inl hr) _).drew
    have hbD := HRB.out.only' hOT hB hX
    have hsz : (W2.setCell ⟨r, 2, none⟩ (.int .i64 ((s.calls : Int) + 1))).drew.heap.size = W2.heap.size := by show (W2.setCell _ _).heap.size = _; simp [World.setCell]
    refine region_begin (T := [W2.heap.size, W2.heap.size + 1, r]) (by kernel_rfl) ?_
    generalize (W2.setCell ⟨r, 2, none⟩ (.int .i64 ((s.calls : Int) + 1))).drew = W at hRU hOT hbD hsz ⊢
    have c0 : W.cell? ⟨r, 1, none⟩ = some (.slice A s.acc.length c) := hRU.head.cell 1
    have c0' : (W.alloc (.cells #[] 5)).cell? ⟨r, 1, none⟩ = some (.slice A s.acc.length c) := (hRU.head.alloc _).cell 1
    refine region_seg [true, false, true, true, true, false, false, true, true, true] 7 (by kernel_rfl) (by kernel_rfl) (by kernel_rfl) rfl (fun _ _ d _ _ h => by cases d <;> exact h) ?_
    repeat (first | with_reducible refine wpMask_pass ?_ | (refine wpMask_want (by rfl) (fun K hK => ?_); go_big_quiet_op; refine hK _ ?_; clear hK K))
    with_reducible refine wpMask_nil ?_
    refine wpAnyH_all (rs := [1, 5]) (by kernel_rfl) (by simp) (fun i hi => ?_)
    simp only [List.mem_cons, List.not_mem_nil, or_false] at hi
    rcases hi with rfl | rfl
    refine op_make (v := .slice (some ⟨W.heap.size, 0, none⟩) 0 0) (w1 := W.alloc (.cells #[] 5)) rfl (by rfl) (by go_simp) ((Only.refl _ _).alloc _) ?_
    simp only [List.getElem_toArray, List.getElem_cons_zero, List.getElem_cons_succ, Act.put, List.setIfInBounds_toArray, List.set_cons_zero, List.set_cons_succ]
    refine region_make 5 (v := .slice A s.acc.length c) (w1 := W.alloc (.cells #[] 5)) (by kernel_rfl) rfl (by rfl) (by go_simp) (Only.refl _ _) ?_
    simp only [List.getElem_toArray, List.getElem_cons_zero, List.getElem_cons_succ, Act.put, List.setIfInBounds_toArray, List.set_cons_zero, List.set_cons_succ]
    rotate_left
    refine op_make (v := .slice A s.acc.length c) (w1 := W) rfl (by rfl) (by go_simp) (Only.refl _ _) ?_
    simp only [List.getElem_toArray, List.getElem_cons_zero, List.getElem_cons_succ, Act.put, List.setIfInBounds_toArray, List.set_cons_zero, List.set_cons_succ]
    refine region_make 1 (v := .slice (some ⟨W.heap.size, 0, none⟩) 0 0) (w1 := W.alloc (.cells #[] 5)) (by kernel_rfl) rfl (by rfl) (by go_simp) ((Only.refl _ _).alloc _) ?_
    simp only [List.getElem_toArray, List.getElem_cons_zero, List.getElem_cons_succ, Act.put, List.setIfInBounds_toArray, List.set_cons_zero, List.set_cons_succ]
    rotate_left
    all_goals
      have hO3 : Only [] W (W.alloc (.cells #[] 5)) := (Only.refl [] W).alloc _
      have hrd1 := hRU.acc.reads.only' hO3 (Nat.le_refl _) (by simp)
      refine region_rowAppend_at 6 (by kernel_rfl) rfl (by rfl) (.tmp 50) (.tmp 54) 29 rfl 5 i0 _ 1 Try.underlying29 hi hz0 hz1 hz2 rfl (some ⟨W.heap.size, 0, none⟩) 0 0 [] rfl (RowAt.of_blk (Blk.new W 5 []) (by simp)) W.heap.size A s.acc.length c (vbs s.acc) rfl hrd1 (vbs_one _) (by unfold maxLen; omega) (by omega) s.acc.length (by omega) (fun g hg => by simp [rowT_some] at hg; simp; omega) ?_
      intro A1 c1 w1 HR1 hO4 HK1 hT1
      simp only [List.getElem_toArray, List.getElem_cons_zero, List.getElem_cons_succ, Act.put, List.setIfInBounds_toArray, List.set_cons_zero, List.set_cons_succ]
      have hw1 : Only [] W w1 := hO3.join hO4 (fun k hk => .inr (by simp [rowT_some] at hk; omega))
      have hk1 : ∀ k, k ∈ rowT A1 → k = W.heap.size ∨ k = W.heap.size + 1 := fun k hk => (HK1.out k hk).imp (fun h => by simpa [rowT_some] using h) (fun h => by simpa using h)
      have hrd2 : Reads w1 B X k (vbs (b.take k)) := by
        have h1 := (hbD.only' hw1 (Nat.le_trans hB hOT.size) (by simp)).cut_ (k := 0) (m := k) (c := cap) (by omega) hkm hmc
        rwa [cutA_zero, List.drop_zero, Nat.sub_zero, ← vbs_take] at h1
      refine region_rowAppend_at 10 (by kernel_rfl) rfl (by rfl) (.tmp 55) (.tmp 58) 29 rfl 5 i0 _ 1 Try.underlying29 hi hz0 hz1 hz2 rfl A1 s.acc.length c1 _ rfl HR1.out B X k cap (vbs (b.take k)) rfl hrd2 (vbs_one _) (by unfold maxLen; omega) (by omega) (s.acc.length + k) rfl (fun g hg => by have := hk1 g hg; simp; omega) ?_
      intro A2 c2 w2 HR2 hO5 HK2 hT2
      simp only [List.getElem_toArray, List.getElem_cons_zero, List.getElem_cons_succ, Act.put, List.setIfInBounds_toArray, List.set_cons_zero, List.set_cons_succ]
      have hw2 : Only [] W w2 := hw1.join hO5 (fun k hk => .inr (by have := hk1 k hk; omega))
      have hb2 := (hRU.only hw2).head
      have f2 := hb2.free 1
      have c2' := hb2.cell 1
      refine region_seg [false, false, false, false, false, false, false, false, false, false, false, true, true] 1 (by kernel_rfl) (by kernel_rfl) (by kernel_rfl) rfl (fun _ _ d _ _ h => by cases d <;> exact h) ?_
      repeat (first | with_reducible refine wpMask_pass ?_ | (refine wpMask_want (by rfl) (fun K hK => ?_); go_big_quiet_op; refine hK _ ?_; clear hK K))
      with_reducible refine wpMask_nil ?_
      refine region_store 13 (w1 := w2.setCell ⟨r, 1, none⟩ (.slice A2 (s.acc.length + k) c2)) (by kernel_rfl) rfl (by rfl) (by go_simp) ((Only.refl _ _).setCell (.inl (by simp)) _) ?_
      refine region_end (by kernel_rfl) ?_
      go_wp2
      go_ret2
      refine ⟨rfl, ?_⟩
      have hR2 := HR2.out
      rw [List.nil_append] at hR2
      have := ref_took (b := b.take k) hRU hOT hw2 hR2 (fun q hq => by
        rcases HK2.out q hq with h | h
        · have := hk1 q h
          omega
        · have := hw1.size
          omega) (by rw [List.length_take, HB.out, Nat.min_eq_left hkm]) hsum
      rw [HF.out] at this
      exact this

theorem rwrite_c {w : World} {T : List Nat} {r : Nat} {full : List Int} {s : WSt} (h : Rf r full s w T)
    {X : Option Addr} {m cap B : Nat} {b : List UInt8} (hb : Reads w B X m (vbs b)) (hB : B ≤ w.heap.size) (n e : Nat) (s' : WSt) (hs : wstep s b = (n, e, s')) (hmc : m ≤ cap) (hcm : cap ≤ maxLen) (hX : 0 < m → ∀ ad, X = some ad → ad.block ∉ T)
    (hsum : s.acc.length + m ≤ 70368744177664) :
    Calls Try.prog 19 #[.pointer (some ⟨r, 0, none⟩), .slice X m cap] w fun e' w' => e' = .returned (.tuple #[.int .i64 n, .int .i64 e]) ∧ RefBecame w T r full s' w' := by
  have hbl : b.length = m := by have := hb.1; rwa [vbs_length] at this
  suffices hh : Calls Try.prog 19 #[.pointer (some ⟨r, 0, none⟩), .slice X m cap] w fun e' w' => e' = .returned (.tuple #[.int .i64 (wstep s b).1, .int .i64 (wstep s b).2.1]) ∧ RefBecame w T r full (wstep s b).2.2 w' by
    rw [hs] at hh
    exact hh
  clear hs
  unfold wstep
  cases hf : s.failed with
  | true =>
    simp only [if_true]
    refine (rwrite_failed h hf _).mono ?_
    rintro e w' ⟨rfl, hO⟩
    exact ⟨rfl, RefBecame.same h hO⟩
  | false =>
    simp only [Bool.false_eq_true, if_false]
    cases hl : s.left with
    | nil =>
      refine (rwrite_blocked h hf hl _).mono ?_
      rintro e w' ⟨rfl, hO⟩
      exact ⟨rfl, RefBecame.same h hO⟩
    | cons x rest =>
      by_cases hx : x < 0
      · simp only [hx, if_true]
        exact rwrite_neg h hf hl hx _
      · simp only [hx, if_false]
        rw [hbl]
        exact rwrite_ok h hf hl (by omega) hb hB hmc hcm hX _ rfl (by omega)

end Go.Proofs.Ytfgomjcdgfagbaa
