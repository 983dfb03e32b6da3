/-
  Contract: Provider.Get, of no name and of a name that was pulled.
-/
import Derived.Test.YtollcekcmnokaaaGet10
namespace Go.Proofs.Ytollcekcmnokaaa
open Go.RowKit Go.BigFrame
set_option linter.unusedVariables false
set_option linter.unusedSimpArgs false

/-- What Get gives. -/
def GetR (t : VT) (fail : List ByteArray) (r : Nat) (ps : List ByteArray) (name : ByteArray) (T : List Nat) (w : World) (e : Ending) (w' : World) : Prop :=
  ∃ (v : VT) (T' : List Nat), e = .returned (.tuple #[.agg #[.int .i64 v.k, .string v.s, .int .i64 v.n, .bool v.b, .slice v.A v.xs.length v.c, .slice v.F v.vs.length v.d], .int .i64 (getA t fail name).2]) ∧ v.plain = (getA t fail name).1 ∧
    Pr t fail r (pullA ps name) w' T' ∧ (∀ k, k ∈ T' → k ∈ T ∨ w.heap.size ≤ k) ∧ Only T w w' ∧ v.In w' (fun g => w.heap.size ≤ g ∧ g < w'.heap.size ∧ g ∉ T')
theorem get_bad {t : VT} {fail ps : List ByteArray} {r : Nat} {T : List Nat} {w : World} (h : Pr t fail r ps w T) (name : ByteArray) (hs : name.size ≤ maxLen) (hb : nameB name = false) :
    Calls Try.prog 6 #[.pointer (some ⟨r, 0, none⟩), .string name] w (GetR t fail r ps name T w) := by
  have HNM := Lib.hid (fun W => isName_c name hs W)
  rw [hb] at HNM
  have hg : getA t fail name = (VT.zero.plain, 11) := by unfold getA; rw [hb]; rfl
  have hq : pullA ps name = ps := by unfold pullA; rw [hb]; rfl
  have HG := Lib.hid hg
  have HQ := Lib.hid hq
  have HH := Lib.hid h
  clear h hs hb hg hq
  go_enter Try.func6, Try.ntmps6
  go_wp2_with (go_at_call 16; refine (HNM.out _).mono ?_; rintro e w' ⟨rfl, rfl⟩)
  refine bodyPost_ret (done2 (u := VT.zero) rfl rfl rfl (Blk.new w 27 VT.zero.cs)) rfl ?_
  unfold GetR
  rw [HG.out, HQ.out]
  exact ⟨VT.zero, T, rfl, rfl, HH.out.bel (Bel.alloc _ _), fun k hk => .inl hk, (bel_only (Bel.alloc _ _)).more (by simp), zero_in _ _⟩
/-- The result of a name in a provider. -/
theorem PrAt.res {t : VT} {fail ps : List ByteArray} {r bf bl br nf nl lo hi : Nat} {A : Option Addr} {c : Nat} {l : List (ByteArray × VT)} {w : World} (h : PrAt t fail ps r bf bl br nf nl lo hi A c l w) (name : ByteArray) :
    ∃ x e0, resT (flOf l name) (hasB fail name) = (x, e0) ∧ x.In w (fun g => lo ≤ g ∧ g < hi ∧ g ≠ r ∧ g ≠ br) ∧ ansT t fail name = (x.plain, e0) := by
  refine ⟨(resT (flOf l name) (hasB fail name)).1, (resT (flOf l name) (hasB fail name)).2, rfl, ?_, (resT_ans (h.plains name)).symm⟩
  unfold resT
  split
  · exact zero_in _ _
  · cases hf : flOf l name with
    | none => exact zero_in _ _
    | some u => exact h.trees name u hf
set_option maxRecDepth 100000 in
set_option maxHeartbeats 3200000 in
theorem get_old {t : VT} {fail ps : List ByteArray} {r : Nat} {T : List Nat} {w : World} (h : Pr t fail r ps w T) (name : ByteArray) (hs : name.size ≤ maxLen) (hb : nameB name = true) (hp : hasB ps name = true) :
    Calls Try.prog 6 #[.pointer (some ⟨r, 0, none⟩), .string name] w (GetR t fail r ps name T w) := by
  have HNM := Lib.hid (fun W => isName_c name hs W)
  rw [hb] at HNM
  have HH := Lib.hid h
  have HLT := Lib.hid h.lt
  obtain ⟨bf, bl, br, nf, nl, lo, hi, A, c, l, h, hT⟩ := h
  obtain ⟨x, e0, hres, hx, hans⟩ := h.res name
  have hg : getA t fail name = (x.plain, e0) := by unfold getA; rw [hb, hans]; rfl
  have hq : pullA ps name = ps := by unfold pullA; rw [hb, hp]; rfl
  have hr := h.head.lt
  have p2 : ∀ o, (w.alloc o).cell? ⟨r, 2, none⟩ = some (.map (some br)) := fun o => (h.head.alloc o).cell 2
  have HMR := Lib.hid (fun o => h.mr.alloc o)
  have HV1 : Hid ((if hasB ps name = true then some (resV (resT (flOf l name) (hasB fail name))) else none).getD (resV (VT.zero, 0)) = .agg #[.int .i64 x.k, .string x.s, .int .i64 x.n, .bool x.b, .slice x.A x.xs.length x.c, .slice x.F x.vs.length x.d, .int .i64 e0]) := Lib.hid (by rw [hp, hres]; rfl)
  have HV2 : Hid ((if hasB ps name = true then some (resV (resT (flOf l name) (hasB fail name))) else none).isSome = true) := Lib.hid (by rw [hp]; rfl)
  have HG := Lib.hid hg
  have HQ := Lib.hid hq
  have HX := Lib.hid (hx.same (Q' := (· < w.heap.size)) (fun g hg => by have := h.top; omega) (fun _ _ _ => rfl))
  have HS := Lib.hid hs
  clear h hT hres hx hans hg hq hb hp hs
  go_enter Try.func6, Try.ntmps6
  go_wp2_with (first | (go_at_call 16; refine (HNM.out _).mono ?_; rintro e w' ⟨rfl, rfl⟩) | (at_lookup; refine wp_look_ok rfl _ _ 56 rfl 52 Try.underlying56 (resV (VT.zero, 0)) zeroRes br _ _ rfl (HMR.out _) name rfl HS.out (.agg #[.int .i64 x.k, .string x.s, .int .i64 x.n, .bool x.b, .slice x.A x.xs.length x.c, .slice x.F x.vs.length x.d, .int .i64 e0]) true HV1.out HV2.out ?_))
  have HBZ : Hid (Blk ((w.alloc (.cells #[.int .i64 0, .string ⟨#[]⟩, .int .i64 0, .bool false, .slice none 0 0, .slice none 0 0] 27)).alloc (.cells #[.int .i64 x.k, .string x.s, .int .i64 x.n, .bool x.b, .slice x.A x.xs.length x.c, .slice x.F x.vs.length x.d, .int .i64 e0] 52)).drew w.heap.size 27 VT.zero.cs) := Lib.hid (((Blk.new w 27 VT.zero.cs).alloc _).drew)
  have HBX : Hid (Blk ((w.alloc (.cells #[.int .i64 0, .string ⟨#[]⟩, .int .i64 0, .bool false, .slice none 0 0, .slice none 0 0] 27)).alloc (.cells #[.int .i64 x.k, .string x.s, .int .i64 x.n, .bool x.b, .slice x.A x.xs.length x.c, .slice x.F x.vs.length x.d, .int .i64 e0] 52)).drew (w.heap.size + 1) 52 (rcs (x, e0))) := Lib.hid (by
    have h := (Blk.new (w.alloc (.cells VT.zero.cs.toArray 27)) 52 (rcs (x, e0))).drew
    rwa [show (w.alloc (.cells VT.zero.cs.toArray 27)).heap.size = w.heap.size + 1 by simp] at h)
  have HWB : Hid (Bel w ((w.alloc (.cells #[.int .i64 0, .string ⟨#[]⟩, .int .i64 0, .bool false, .slice none 0 0, .slice none 0 0] 27)).alloc (.cells #[.int .i64 x.k, .string x.s, .int .i64 x.n, .bool x.b, .slice x.A x.xs.length x.c, .slice x.F x.vs.length x.d, .int .i64 e0] 52)).drew) := Lib.hid (((Bel.alloc _ _).trans (Bel.alloc _ _)).trans (Bel.drew _))
  refine region_begin (T := [w.heap.size]) (by kernel_rfl) ?_
  generalize ((w.alloc (.cells #[.int .i64 0, .string ⟨#[]⟩, .int .i64 0, .bool false, .slice none 0 0, .slice none 0 0] 27)).alloc (.cells #[.int .i64 x.k, .string x.s, .int .i64 x.n, .bool x.b, .slice x.A x.xs.length x.c, .slice x.F x.vs.length x.d, .int .i64 e0] 52)).drew = W at HBZ HBX HWB ⊢
  have HCALL := Lib.hid (clone_c (SizeOf.sizeOf x + 1) x W (Nat.lt_succ_self _) (HX.out.bel HWB.out))
  have i0 : ∀ X : Later [w.heap.size] W, X.w.cell? ⟨w.heap.size + 1, 0, none⟩ = some (.int .i64 x.k) := fun X => (only_cell X.h HBX.out.lt (by simp)).trans (HBX.out.cell 0)
  have i1 : ∀ X : Later [w.heap.size] W, X.w.cell? ⟨w.heap.size + 1, 1, none⟩ = some (.string x.s) := fun X => (only_cell X.h HBX.out.lt (by simp)).trans (HBX.out.cell 1)
  have i2 : ∀ X : Later [w.heap.size] W, X.w.cell? ⟨w.heap.size + 1, 2, none⟩ = some (.int .i64 x.n) := fun X => (only_cell X.h HBX.out.lt (by simp)).trans (HBX.out.cell 2)
  have i3 : ∀ X : Later [w.heap.size] W, X.w.cell? ⟨w.heap.size + 1, 3, none⟩ = some (.bool x.b) := fun X => (only_cell X.h HBX.out.lt (by simp)).trans (HBX.out.cell 3)
  have i4 : ∀ X : Later [w.heap.size] W, X.w.cell? ⟨w.heap.size + 1, 4, none⟩ = some (.slice x.A x.xs.length x.c) := fun X => (only_cell X.h HBX.out.lt (by simp)).trans (HBX.out.cell 4)
  have i5 : ∀ X : Later [w.heap.size] W, X.w.cell? ⟨w.heap.size + 1, 5, none⟩ = some (.slice x.F x.vs.length x.d) := fun X => (only_cell X.h HBX.out.lt (by simp)).trans (HBX.out.cell 5)
  have i6 : ∀ X : Later [w.heap.size] W, X.w.cell? ⟨w.heap.size + 1, 6, none⟩ = some (.int .i64 e0) := fun X => (only_cell X.h HBX.out.lt (by simp)).trans (HBX.out.cell 6)
  refine region_seg [true, true, false, true, true] 3 (by kernel_rfl) (by kernel_rfl) (by kernel_rfl) rfl (fun _ _ d _ _ h => by cases d <;> exact h) ?_
  repeat (first | with_reducible refine wpMask_pass ?_ | (refine wpMask_want (by rfl) (fun K hK => ?_); go_big_quiet_op; refine hK _ ?_; clear hK K))
  with_reducible refine wpMask_nil ?_
  clear i0 i1 i2 i3 i4 i5 i6
  refine region_call 2 (by kernel_rfl) rfl (by rfl) (by go_simp; exact ⟨rfl, rfl⟩) ?_
  refine HCALL.out.mono ?_
  rintro e w2 ⟨y, rfl, hb, hy, hp⟩
  refine ⟨_, rfl, (bel_only hb).more (by simp), ?_⟩
  simp only [List.getElem_toArray, List.getElem_cons_zero, List.getElem_cons_succ, Act.put, List.setIfInBounds_toArray, List.set_cons_zero, List.set_cons_succ]
  have HB2 := Lib.hid (HWB.out.trans hb)
  have HY := Lib.hid (hy.only (Only.refl [] w2) (fun g hg => ⟨by simp, hg.2⟩) (Q' := fun g => W.heap.size ≤ g ∧ g < w2.heap.size) (fun g hg => hg))
  have HP := Lib.hid hp
  have HBZ2 := Lib.hid (HBZ.out.below hb HBZ.out.lt)
  have HBX2 := Lib.hid (HBX.out.below hb HBX.out.lt)
  have HWS : Hid (w.heap.size + 1 < W.heap.size) := Lib.hid HBX.out.lt
  clear hb hy hp
  obtain ⟨z0, z1, z2, z3, z4, z5⟩ := cs_cells HBZ2.out
  have f0 := HBZ2.out.free 0
  have f1 := HBZ2.out.free 1
  have f2 := HBZ2.out.free 2
  have f3 := HBZ2.out.free 3
  have f4 := HBZ2.out.free 4
  have f5 := HBZ2.out.free 5
  refine region_store (w1 := setC w2 w.heap.size 0 y.cs) 5 (by kernel_rfl) rfl (by rfl) (by go_simp; rfl) (only_setC _ _ _) ?_
  clear z0 z1 z2 z3 z4 z5 f0 f1 f2 f3 f4 f5
  have HO3 : Hid (Only [w.heap.size] w2 (setC w2 w.heap.size 0 y.cs)) := Lib.hid (only_setC _ _ _)
  have HZ3 : Hid (Blk (setC w2 w.heap.size 0 y.cs) w.heap.size 27 y.cs) := Lib.hid (set6 HBZ2.out _ _ _ _ _ _)
  generalize setC w2 w.heap.size 0 y.cs = w3 at HO3 HZ3 ⊢
  simp only [List.getElem_toArray, List.getElem_cons_zero, List.getElem_cons_succ, Act.put, List.setIfInBounds_toArray, List.set_cons_zero, List.set_cons_succ]
  refine region_seg [false, false, false, false, false, false, true] 0 (by kernel_rfl) (by kernel_rfl) (by kernel_rfl) rfl (fun _ _ d _ _ h => by cases d <;> exact h) ?_
  repeat (first | with_reducible refine wpMask_pass ?_ | (refine wpMask_want (by rfl) (fun K hK => ?_); go_big_quiet_op; refine hK _ ?_; clear hK K))
  with_reducible refine wpMask_nil ?_
  refine region_end (by kernel_rfl) ?_
  go_wp2_with fail
  refine bodyPost_ret (done2 (u := y) rfl rfl rfl HZ3.out) rfl ?_
  have hOW : Only [] w w3 := (bel_only HB2.out).join HO3.out (fun i hi => .inr (by simp at hi; omega))
  unfold GetR
  rw [HG.out, HQ.out]
  exact ⟨y, T, rfl, HP.out, HH.out.bel (bel_of_only hOW), fun k hk => .inl hk, hOW.more (by simp), HY.out.only HO3.out (fun g hg => ⟨by simp; have := HWS.out; omega, hg.2⟩) (fun g hg => ⟨by have := HWS.out; omega, Nat.lt_of_lt_of_le hg.2 HO3.out.size, fun hm => by have h1 := HLT.out g hm; have := HWS.out; omega⟩)⟩
end Go.Proofs.Ytollcekcmnokaaa
