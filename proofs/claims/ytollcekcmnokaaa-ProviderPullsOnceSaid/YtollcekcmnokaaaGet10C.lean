/-
  Contract: Provider.Get, of a name that was not pulled.
-/
import Derived.Test.YtollcekcmnokaaaGet10B
namespace Go.Proofs.Ytollcekcmnokaaa
open Go.RowKit Go.BigFrame
set_option linter.unusedVariables false
set_option linter.unusedSimpArgs false

/-- A name is pulled: its result is stored, it is appended, the row is stored. -/
theorem PrAt.pulled {t : VT} {fail ps : List ByteArray} {r bf bl br nf nl lo hi : Nat} {A A2 : Option Addr} {c c2 : Nat} {l : List (ByteArray × VT)} {V V1 V2 V3 : World} {name : ByteArray} (h : PrAt t fail ps r bf bl br nf nl lo hi A c l V) (hb : nameB name = true)
    (hS : SMap V1 br (ps.length + 1) (fun k => if k = name then some (resV (resT (flOf l name) (hasB fail name))) else if hasB ps k then some (resV (resT (flOf l k) (hasB fail k))) else none)) (hO1 : Only [br] V V1) (hB2 : Bel V1 V2)
    (hR : KRow V3 9 1 fS A2 c2 (ps ++ [name])) (hO3 : Only (rowT A) V2 V3) (hK : ∀ k, k ∈ rowT A2 → k ∈ rowT A ∨ k = V2.heap.size) :
    PrAt t fail (ps ++ [name]) r bf bl br nf nl lo hi A2 c2 l (V3.setCell ⟨r, 3, none⟩ (.slice A2 (ps.length + 1) c2)) ∧ Only (List.range' lo (hi - lo) ++ rowT A) V (V3.setCell ⟨r, 3, none⟩ (.slice A2 (ps.length + 1) c2)) := by
  obtain ⟨⟨i1, j1⟩, ⟨i2, j2⟩, ⟨i3, j3⟩, ⟨i4, j4⟩⟩ := h.in_
  obtain ⟨n1, n2, n3, n4, n5⟩ := h.ne
  have htop := h.top
  have hle := h.le
  have hrows := h.rows
  have hs1 := hO1.size
  have hs2 := hB2.size
  have hs3 := hO3.size
  have hno : ∀ k, k < hi → k ∉ rowT A := fun k hk hm => by have := hrows k hm; omega
  have hno2 : ∀ k, k ∈ rowT A2 → hi ≤ k := fun k hm => by rcases hK k hm with h1 | h1; exact hrows k h1; omega
  have ho4 : Only [r] V3 (V3.setCell ⟨r, 3, none⟩ (.slice A2 (ps.length + 1) c2)) := (Only.refl [r] V3).setCell (.inl (by simp)) _
  have hlen : (ps ++ [name]).length = ps.length + 1 := by simp
  refine ⟨⟨?_, ?_, ?_, ?_, ?_, fun k u hu => ?_, h.plains, h.in_, h.ne, by have := ho4.size; omega, hno2, fun k hk => ?_⟩, ?_⟩
  · have h1 := ((h.head.only hO1 (by simp; omega)).below hB2 (h.head.only hO1 (by simp; omega)).lt).only hO3 (hno r j1)
    have h2 := h1.set_ 3 (.slice A2 (ps.length + 1) c2)
    rw [hlen]
    exact h2
  · exact (((h.mf.only hO1 (by simp; omega)).bel hB2).only hO3 (hno bf j2)).only ho4 (by simp; omega)
  · exact (((h.ml.only hO1 (by simp; omega)).bel hB2).only hO3 (hno bl j3)).only ho4 (by simp; omega)
  · rw [hlen]
    refine ((((hS.bel hB2).only hO3 (hno br j4)).only ho4 (by simp; omega))).congr fun k => ?_
    rw [hasB_push]
    by_cases e : k = name
    · subst e; rw [if_pos rfl, if_pos rfl]; rfl
    · rw [if_neg e, if_neg e]
  · exact hR.only ho4 (fun k hk hm => by have := hno2 k hk; simp at hm; omega)
  · refine (((((h.trees k u hu).only hO1 (fun g hg => ⟨by simp; exact hg.2.2.2, by omega⟩) (fun g hg => hg)).only (bel_only hB2) (fun g hg => ⟨by simp, by omega⟩) (fun g hg => hg)).only hO3 (fun g hg => ⟨hno g hg.2.1, by omega⟩) (fun g hg => hg)).only ho4 (fun g hg => ⟨by simp; exact hg.2.2.1, by omega⟩) (fun g hg => hg))
  · rcases List.mem_append.1 hk with hk | hk
    · exact h.names k hk
    · simp at hk; subst hk; exact hb
  · refine (((hO1.more (fun k hk => by simp at hk; subst hk; exact (mem_T hle).2 (.inl ⟨i4, j4⟩))).trans ((bel_only hB2).more (by simp))).trans (hO3.more (fun k hk => (mem_T hle).2 (.inr hk)))).trans (ho4.more (fun k hk => by simp at hk; subst hk; exact (mem_T hle).2 (.inl ⟨i1, j1⟩)))
theorem rcs_cells {w : World} {g : Nat} {p : VT × Int} (h : Blk w g 52 (rcs p)) : w.cell? ⟨g, 0, none⟩ = some (.int .i64 p.1.k) ∧ w.cell? ⟨g, 1, none⟩ = some (.string p.1.s) ∧ w.cell? ⟨g, 2, none⟩ = some (.int .i64 p.1.n) ∧ w.cell? ⟨g, 3, none⟩ = some (.bool p.1.b) ∧
    w.cell? ⟨g, 4, none⟩ = some (.slice p.1.A p.1.xs.length p.1.c) ∧ w.cell? ⟨g, 5, none⟩ = some (.slice p.1.F p.1.vs.length p.1.d) ∧ w.cell? ⟨g, 6, none⟩ = some (.int .i64 p.2) :=
  ⟨h.cell 0, h.cell 1, h.cell 2, h.cell 3, h.cell 4, h.cell 5, h.cell 6⟩
theorem two_new (w : World) (o : Obj) (e : TypeId) (cs : List Value) : Blk ((w.alloc o).alloc (.cells cs.toArray e)) (w.heap.size + 1) e cs := by
  have h := Blk.new (w.alloc o) e cs
  rwa [show (w.alloc o).heap.size = w.heap.size + 1 by simp] at h
set_option maxRecDepth 100000 in
set_option maxHeartbeats 3200000 in
theorem get_new {t : VT} {fail ps : List ByteArray} {r : Nat} {T : List Nat} {w : World} (h : Pr t fail r ps w T) (name : ByteArray) (hn : ps.length ≤ 1000000) (hb : nameB name = true) (hp : hasB ps name = false) :
    Calls Try.prog 6 #[.pointer (some ⟨r, 0, none⟩), .string name] w (GetR t fail r ps name T w) := by
  have hs : name.size ≤ maxLen := by have := name_size hb; unfold maxLen; omega
  have HNM := Lib.hid (fun W => isName_c name hs W)
  rw [hb] at HNM
  have HLT := Lib.hid h.lt
  obtain ⟨bf, bl, br, nf, nl, lo, hi, A, c, l, h, hT⟩ := h
  obtain ⟨x, e0, hres, hx, hans⟩ := h.res name
  have hg : getA t fail name = (x.plain, e0) := by unfold getA; rw [hb, hans]; rfl
  have hq : pullA ps name = ps ++ [name] := by unfold pullA; rw [hb, hp]; rfl
  have hr := h.head.lt
  have p2 : ∀ o, (w.alloc o).cell? ⟨r, 2, none⟩ = some (.map (some br)) := fun o => (h.head.alloc o).cell 2
  have HMR := Lib.hid (fun o => h.mr.alloc o)
  have HV1 : Hid ((if hasB ps name = true then some (resV (resT (flOf l name) (hasB fail name))) else none).getD (resV (VT.zero, 0)) = .agg #[.int .i64 0, .string ByteArray.empty, .int .i64 0, .bool false, .slice none 0 0, .slice none 0 0, .int .i64 0]) := Lib.hid (by rw [hp]; rfl)
  have HV2 : Hid ((if hasB ps name = true then some (resV (resT (flOf l name) (hasB fail name))) else none).isSome = false) := Lib.hid (by rw [hp]; rfl)
  have HPULL : Hid (∀ W, Bel w W → Calls Try.prog 17 #[.pointer (some ⟨r, 0, none⟩), .string name] W fun e w' => e = .returned (.agg #[.int .i64 x.k, .string x.s, .int .i64 x.n, .bool x.b, .slice x.A x.xs.length x.c, .slice x.F x.vs.length x.d, .int .i64 e0]) ∧ Bel W w') := Lib.hid (fun W hW => by
    have h1 := pull_c (h.only (S := []) (bel_only hW) (by simp)) name hs
    rw [hres] at h1
    exact h1)
  have HG := Lib.hid hg
  have HQ := Lib.hid hq
  have HX := Lib.hid (hx.same (Q' := (· < w.heap.size)) (fun g hg => by have := h.top; omega) (fun _ _ _ => rfl))
  have HS := Lib.hid hs
  have HRES := Lib.hid hres
  have HH := Lib.hid h
  have HNB := Lib.hid hb
  have hhead := h.in_.1.2
  have htop := h.top
  clear h hres hx hans hg hq hb hp hs
  go_enter Try.func6, Try.ntmps6
  go_wp2_with (first | (go_at_call 16; refine (HNM.out _).mono ?_; rintro e w' ⟨rfl, rfl⟩) | (at_lookup; refine wp_look_ok rfl _ _ 56 rfl 52 Try.underlying56 (resV (VT.zero, 0)) zeroRes br _ _ rfl (HMR.out _) name rfl HS.out (.agg #[.int .i64 0, .string ByteArray.empty, .int .i64 0, .bool false, .slice none 0 0, .slice none 0 0, .int .i64 0]) false HV1.out HV2.out ?_) | (go_at_call 17; refine (HPULL.out _ ((Bel.alloc _ _).trans (Bel.alloc _ _))).mono ?_; rintro e w2 ⟨rfl, hb⟩; have HBZ2 := Lib.hid (((Blk.new w 27 VT.zero.cs).alloc (.cells (rcs (VT.zero, 0)).toArray 52)).below hb ((Blk.new w 27 VT.zero.cs).alloc _).lt); have HBX2 := Lib.hid ((two_new w (.cells VT.zero.cs.toArray 27) 52 (rcs (VT.zero, 0))).below hb (two_new w (.cells VT.zero.cs.toArray 27) 52 (rcs (VT.zero, 0))).lt); have HB2 := Lib.hid (((Bel.alloc w (.cells VT.zero.cs.toArray 27)).trans (Bel.alloc _ (.cells (rcs (VT.zero, 0)).toArray 52))).trans hb); obtain ⟨z0, z1, z2, z3, z4, z5, z6⟩ := rcs_cells HBX2.out; have f0 := HBX2.out.free 0; have f1 := HBX2.out.free 1; have f2 := HBX2.out.free 2; have f3 := HBX2.out.free 3; have f4 := HBX2.out.free 4; have f5 := HBX2.out.free 5; have f6 := HBX2.out.free 6; clear hb))
  have HO3 : Hid (Only [w.heap.size + 1] w2 (((((((w2.setCell ⟨w.heap.size + 1, 0, none⟩ (.int .i64 x.k)).setCell ⟨w.heap.size + 1, 1, none⟩ (.string x.s)).setCell ⟨w.heap.size + 1, 2, none⟩ (.int .i64 x.n)).setCell ⟨w.heap.size + 1, 3, none⟩ (.bool x.b)).setCell ⟨w.heap.size + 1, 4, none⟩ (.slice x.A x.xs.length x.c)).setCell ⟨w.heap.size + 1, 5, none⟩ (.slice x.F x.vs.length x.d)).setCell ⟨w.heap.size + 1, 6, none⟩ (.int .i64 e0)).drew) := Lib.hid (only7w w2 (w.heap.size + 1) _ _ _ _ _ _ _).drew
  have HBX3 : Hid (Blk (((((((w2.setCell ⟨w.heap.size + 1, 0, none⟩ (.int .i64 x.k)).setCell ⟨w.heap.size + 1, 1, none⟩ (.string x.s)).setCell ⟨w.heap.size + 1, 2, none⟩ (.int .i64 x.n)).setCell ⟨w.heap.size + 1, 3, none⟩ (.bool x.b)).setCell ⟨w.heap.size + 1, 4, none⟩ (.slice x.A x.xs.length x.c)).setCell ⟨w.heap.size + 1, 5, none⟩ (.slice x.F x.vs.length x.d)).setCell ⟨w.heap.size + 1, 6, none⟩ (.int .i64 e0)).drew (w.heap.size + 1) 52 (rcs (x, e0))) := Lib.hid (set7w HBX2.out _ _ _ _ _ _ _).drew
  have HBZ3 : Hid (Blk (((((((w2.setCell ⟨w.heap.size + 1, 0, none⟩ (.int .i64 x.k)).setCell ⟨w.heap.size + 1, 1, none⟩ (.string x.s)).setCell ⟨w.heap.size + 1, 2, none⟩ (.int .i64 x.n)).setCell ⟨w.heap.size + 1, 3, none⟩ (.bool x.b)).setCell ⟨w.heap.size + 1, 4, none⟩ (.slice x.A x.xs.length x.c)).setCell ⟨w.heap.size + 1, 5, none⟩ (.slice x.F x.vs.length x.d)).setCell ⟨w.heap.size + 1, 6, none⟩ (.int .i64 e0)).drew w.heap.size 27 VT.zero.cs) := Lib.hid (HBZ2.out.only HO3.out (by simp))
  refine region_begin (T := [br]) (by kernel_rfl) ?_
  generalize (((((((w2.setCell ⟨w.heap.size + 1, 0, none⟩ (.int .i64 x.k)).setCell ⟨w.heap.size + 1, 1, none⟩ (.string x.s)).setCell ⟨w.heap.size + 1, 2, none⟩ (.int .i64 x.n)).setCell ⟨w.heap.size + 1, 3, none⟩ (.bool x.b)).setCell ⟨w.heap.size + 1, 4, none⟩ (.slice x.A x.xs.length x.c)).setCell ⟨w.heap.size + 1, 5, none⟩ (.slice x.F x.vs.length x.d)).setCell ⟨w.heap.size + 1, 6, none⟩ (.int .i64 e0)).drew = V at HO3 HBX3 HBZ3 ⊢
  have hbr := HH.out.in_.2.2.2.2
  have hrb := HH.out.ne.2.2.1
  have HOV : Hid (Only [] w V) := Lib.hid ((bel_only HB2.out).join HO3.out (fun i hi => .inr (by simp at hi; omega)))
  have HHV := Lib.hid (HH.out.only HOV.out (by simp))
  clear z0 z1 z2 z3 z4 z5 z6 f0 f1 f2 f3 f4 f5 f6
  have b2 : ∀ X : Later [br] V, X.w.cell? ⟨r, 2, none⟩ = some (.map (some br)) := fun X => (only_cell X.h HHV.out.head.lt (by simp; omega)).trans (HHV.out.head.cell 2)
  have i0 : ∀ X : Later [br] V, X.w.cell? ⟨w.heap.size + 1, 0, none⟩ = some (.int .i64 x.k) := fun X => (only_cell X.h HBX3.out.lt (by simp; omega)).trans (HBX3.out.cell 0)
  have i1 : ∀ X : Later [br] V, X.w.cell? ⟨w.heap.size + 1, 1, none⟩ = some (.string x.s) := fun X => (only_cell X.h HBX3.out.lt (by simp; omega)).trans (HBX3.out.cell 1)
  have i2 : ∀ X : Later [br] V, X.w.cell? ⟨w.heap.size + 1, 2, none⟩ = some (.int .i64 x.n) := fun X => (only_cell X.h HBX3.out.lt (by simp; omega)).trans (HBX3.out.cell 2)
  have i3 : ∀ X : Later [br] V, X.w.cell? ⟨w.heap.size + 1, 3, none⟩ = some (.bool x.b) := fun X => (only_cell X.h HBX3.out.lt (by simp; omega)).trans (HBX3.out.cell 3)
  have i4 : ∀ X : Later [br] V, X.w.cell? ⟨w.heap.size + 1, 4, none⟩ = some (.slice x.A x.xs.length x.c) := fun X => (only_cell X.h HBX3.out.lt (by simp; omega)).trans (HBX3.out.cell 4)
  have i5 : ∀ X : Later [br] V, X.w.cell? ⟨w.heap.size + 1, 5, none⟩ = some (.slice x.F x.vs.length x.d) := fun X => (only_cell X.h HBX3.out.lt (by simp; omega)).trans (HBX3.out.cell 5)
  have i6 : ∀ X : Later [br] V, X.w.cell? ⟨w.heap.size + 1, 6, none⟩ = some (.int .i64 e0) := fun X => (only_cell X.h HBX3.out.lt (by simp; omega)).trans (HBX3.out.cell 6)
  refine region_seg [true, true, true, true, true, true] 1 (by kernel_rfl) (by kernel_rfl) (by kernel_rfl) rfl (fun _ _ d _ _ h => by cases d <;> exact h) ?_
  repeat (first | with_reducible refine wpMask_pass ?_ | (refine wpMask_want (by rfl) (fun K hK => ?_); go_big_quiet_op; refine hK _ ?_; clear hK K))
  with_reducible refine wpMask_nil ?_
  clear b2 i0 i1 i2 i3 i4 i5 i6
  obtain ⟨w4, hrun, hs4, hg4⟩ := HHV.out.mr.push Try.underlying56 (by unfold maxLen; omega) HS.out (resV (resT (flOf l name) (hasB fail name)))
  rw [HRES.out] at hrun
  refine region_store 6 (by kernel_rfl) rfl (by rfl) (w1 := w4) (run_mapUpdate_op10 rfl rfl rfl rfl hrun) (only_of_grown hg4) ?_
  refine region_end (by kernel_rfl) ?_
  simp only [List.getElem_toArray, List.getElem_cons_zero, List.getElem_cons_succ, Act.put, List.setIfInBounds_toArray, List.set_cons_zero, List.set_cons_succ]
  have HS4 := Lib.hid hs4
  have HO4 := Lib.hid (only_of_grown hg4)
  clear hrun hs4 hg4
  have HHD4 := Lib.hid (HHV.out.head.only HO4.out (by simp; omega))
  have HBX4 := Lib.hid (HBX3.out.only HO4.out (by simp; omega))
  have HBZ4 := Lib.hid (HBZ3.out.only HO4.out (by simp; omega))
  have HROW4 := Lib.hid ((HHV.out.row.only HO4.out (fun k hk hm => by have := HH.out.rows k hk; simp at hm; omega)).alloc (.cells #[.string name] 9))
  have HSRC := Lib.hid (show Src (w4.alloc (.cells #[.string name] 9)) 1 fS (some ⟨w4.heap.size, 0, none⟩) [name] from src_blk (Blk.new w4 9 [.string name]) (flat_one (f := fS) name).symm)
  have p3 : w4.cell? ⟨r, 3, none⟩ = some (.slice A ps.length c) := HHD4.out.cell 3
  have HM : Hid (ps.length + 1 ≤ maxLen ∧ (ps.length + 1) * 16 ≤ 140737488355328) := Lib.hid (by unfold maxLen; omega)
  have HHDA := Lib.hid (HHD4.out.alloc (.cells #[.string name] 9))
  have hrA : r ∉ rowT A := fun hm => by have := HH.out.rows r hm; omega
  obtain ⟨q, hq⟩ : ∃ q, q = ps.length := ⟨_, rfl⟩
  rw [← hq] at p3 HM
  have HQN := Lib.hid hq.symm
  clear hq
  go_wp2_with (with_reducible refine wp_kAppend rfl (.tmp 39) (.tmp 41) 23 rfl 9 _ 1 16 fS fS_len fS_one Try.underlying23 info_str cells_str (of_decide_eq_true rfl) A c ps q HQN.out rfl HROW4.out (some ⟨w4.heap.size, 0, none⟩) 1 [name] 1 rfl rfl HSRC.out HM.out.1 HM.out.2 (q + 1) rfl ?_; intro A2 c2 w5 HR5 hO5 HK5; have HO5 := Lib.hid hO5; have HHD5 := Lib.hid (HHDA.out.only hO5 hrA); have p5 := HHD5.out.cell 3; have g5 := HHD5.out.free 3; clear hO5)
  have HPO := Lib.hid (HHV.out.pulled HNB.out HS4.out HO4.out (Bel.alloc w4 (.cells #[.string name] 9)) HR5.out HO5.out HK5.out)
  have hsz4 := HO4.out.size
  have hsz5 := HO5.out.size
  have hq9 := HQN.out
  subst hq9
  have HO6 : Hid (Only [r] w5 (w5.setCell ⟨r, 3, none⟩ (.slice A2 (ps.length + 1) c2)).drew) := Lib.hid ((Only.refl [r] w5).setCell (.inl (by simp)) _).drew
  have HAW : Hid (w.heap.size + 1 < w4.heap.size) := Lib.hid HBX4.out.lt
  have HBX : Hid (Blk (w5.setCell ⟨r, 3, none⟩ (.slice A2 (ps.length + 1) c2)).drew (w.heap.size + 1) 52 (rcs (x, e0))) := Lib.hid (((HBX4.out.alloc _).only HO5.out (fun hm => by have := HH.out.row.lt _ hm; omega)).only HO6.out (by simp; omega))
  have HBZ : Hid (Blk (w5.setCell ⟨r, 3, none⟩ (.slice A2 (ps.length + 1) c2)).drew w.heap.size 27 VT.zero.cs) := Lib.hid (((HBZ4.out.alloc _).only HO5.out (fun hm => by have := HH.out.row.lt _ hm; omega)).only HO6.out (by simp; omega))
  have HPR : Hid (PrAt t fail (ps ++ [name]) r bf bl br nf nl lo hi A2 c2 l (w5.setCell ⟨r, 3, none⟩ (.slice A2 (ps.length + 1) c2)).drew) := Lib.hid (HPO.out.1.only (S := []) ((Only.refl [] _).drew) (by simp))
  have HOT : Hid (Only (List.range' lo (hi - lo) ++ rowT A) w (w5.setCell ⟨r, 3, none⟩ (.slice A2 (ps.length + 1) c2)).drew) := Lib.hid ((HOV.out.more (by simp)).trans HPO.out.2.drew)
  have HXW : Hid (x.In (w5.setCell ⟨r, 3, none⟩ (.slice A2 (ps.length + 1) c2)).drew (· < (w5.setCell ⟨r, 3, none⟩ (.slice A2 (ps.length + 1) c2)).drew.heap.size)) := Lib.hid (by
    obtain ⟨x', e', hres, hx, _⟩ := HPR.out.res name
    rw [HRES.out] at hres
    injection hres with h1 h2
    subst h1
    exact hx.same (fun g hg => by have := HPR.out.top; omega) (fun _ _ _ => rfl))
  clear HPO HO6 HHD4 HHDA HHD5 p3 p5 g5 HROW4 HSRC HBX4 HBZ4 HBX3 HBZ3 HO3 HO4 HS4 HHV HR5
  refine region_begin (T := [w.heap.size]) (by kernel_rfl) ?_
  generalize (w5.setCell ⟨r, 3, none⟩ (.slice A2 (ps.length + 1) c2)).drew = W at HBX HBZ HPR HOT HXW ⊢
  have HCALL := Lib.hid (clone_c (SizeOf.sizeOf x + 1) x W (Nat.lt_succ_self _) HXW.out)
  have i0 : ∀ X : Later [w.heap.size] W, X.w.cell? ⟨w.heap.size + 1, 0, none⟩ = some (.int .i64 x.k) := fun X => (only_cell X.h HBX.out.lt (by simp)).trans (HBX.out.cell 0)
  have i1 : ∀ X : Later [w.heap.size] W, X.w.cell? ⟨w.heap.size + 1, 1, none⟩ = some (.string x.s) := fun X => (only_cell X.h HBX.out.lt (by simp)).trans (HBX.out.cell 1)
  have i2 : ∀ X : Later [w.heap.size] W, X.w.cell? ⟨w.heap.size + 1, 2, none⟩ = some (.int .i64 x.n) := fun X => (only_cell X.h HBX.out.lt (by simp)).trans (HBX.out.cell 2)
  have i3 : ∀ X : Later [w.heap.size] W, X.w.cell? ⟨w.heap.size + 1, 3, none⟩ = some (.bool x.b) := fun X => (only_cell X.h HBX.out.lt (by simp)).trans (HBX.out.cell 3)
  have i4 : ∀ X : Later [w.heap.size] W, X.w.cell? ⟨w.heap.size + 1, 4, none⟩ = some (.slice x.A x.xs.length x.c) := fun X => (only_cell X.h HBX.out.lt (by simp)).trans (HBX.out.cell 4)
  have i5 : ∀ X : Later [w.heap.size] W, X.w.cell? ⟨w.heap.size + 1, 5, none⟩ = some (.slice x.F x.vs.length x.d) := fun X => (only_cell X.h HBX.out.lt (by simp)).trans (HBX.out.cell 5)
  have i6 : ∀ X : Later [w.heap.size] W, X.w.cell? ⟨w.heap.size + 1, 6, none⟩ = some (.int .i64 e0) := fun X => (only_cell X.h HBX.out.lt (by simp)).trans (HBX.out.cell 6)
  refine region_seg [true, true, false, true, true] 3 (by kernel_rfl) (by kernel_rfl) (by kernel_rfl) rfl (fun _ _ d _ _ h => by cases d <;> exact h) ?_
  repeat (first | with_reducible refine wpMask_pass ?_ | (refine wpMask_want (by rfl) (fun K hK => ?_); go_big_quiet_op; refine hK _ ?_; clear hK K))
  with_reducible refine wpMask_nil ?_
  clear i0 i1 i2 i3 i4 i5 i6
  refine region_call 2 (by kernel_rfl) rfl (by rfl) (by go_simp; exact ⟨rfl, rfl⟩) ?_
  refine HCALL.out.mono ?_
  rintro e w2 ⟨y, rfl, hb, hy, hp⟩
  refine ⟨_, rfl, (bel_only hb).more (by simp), ?_⟩
  simp only [List.getElem_toArray, List.getElem_cons_zero, List.getElem_cons_succ, Act.put, List.setIfInBounds_toArray, List.set_cons_zero, List.set_cons_succ]
  have HBW := Lib.hid hb
  have HY := Lib.hid (hy.only (Only.refl [] w2) (fun g hg => ⟨by simp, hg.2⟩) (Q' := fun g => W.heap.size ≤ g ∧ g < w2.heap.size) (fun g hg => hg))
  have HP := Lib.hid hp
  have HBZ2 := Lib.hid (HBZ.out.below hb HBZ.out.lt)
  have HBX2 := Lib.hid (HBX.out.below hb HBX.out.lt)
  have HWS : Hid (w.heap.size + 1 < W.heap.size) := Lib.hid HBX.out.lt
  have HPR2 := Lib.hid (HPR.out.only (S := []) (bel_only hb) (by simp))
  have HOT2 := Lib.hid (HOT.out.trans ((bel_only hb).more (by simp)))
  have HLW : Hid (∀ k, k ∈ List.range' lo (hi - lo) ++ rowT A2 → k < W.heap.size) := Lib.hid (Pr.lt ⟨bf, bl, br, nf, nl, lo, hi, A2, c2, l, HPR.out, rfl⟩)
  have HKA : Hid (∀ k, k ∈ rowT A2 → k ∈ rowT A ∨ w.heap.size + 1 < k) := Lib.hid (fun k hk => (HK5.out k hk).imp id (fun h => by simp at h; have := HAW.out; omega))
  clear hb hy hp
  obtain ⟨z0, z1, z2, z3, z4, z5⟩ := cs_cells HBZ2.out
  have f0 := HBZ2.out.free 0
  have f1 := HBZ2.out.free 1
  have f2 := HBZ2.out.free 2
  have f3 := HBZ2.out.free 3
  have f4 := HBZ2.out.free 4
  have f5 := HBZ2.out.free 5
  refine region_store (w1 := setC w2 w.heap.size 0 y.cs) 5 (by kernel_rfl) rfl (by rfl) (by go_simp; rfl) (only_setC _ _ _) ?_
  clear z0 z1 z2 z3 z4 z5 f0 f1 f2 f3 f4 f5
  have HO3 : Hid (Only [w.heap.size] w2 (setC w2 w.heap.size 0 y.cs)) := Lib.hid (only_setC _ _ _)
  have HZ3 : Hid (Blk (setC w2 w.heap.size 0 y.cs) w.heap.size 27 y.cs) := Lib.hid (set6 HBZ2.out _ _ _ _ _ _)
  generalize setC w2 w.heap.size 0 y.cs = w3 at HO3 HZ3 ⊢
  simp only [List.getElem_toArray, List.getElem_cons_zero, List.getElem_cons_succ, Act.put, List.setIfInBounds_toArray, List.set_cons_zero, List.set_cons_succ]
  refine region_seg [false, false, false, false, false, false, true] 0 (by kernel_rfl) (by kernel_rfl) (by kernel_rfl) rfl (fun _ _ d _ _ h => by cases d <;> exact h) ?_
  repeat (first | with_reducible refine wpMask_pass ?_ | (refine wpMask_want (by rfl) (fun K hK => ?_); go_big_quiet_op; refine hK _ ?_; clear hK K))
  with_reducible refine wpMask_nil ?_
  refine region_end (by kernel_rfl) ?_
  go_wp2_with fail
  refine bodyPost_ret (done2 (u := y) rfl rfl rfl HZ3.out) rfl ?_
  have hno : ∀ k, k ∈ [w.heap.size] → ¬ ((lo ≤ k ∧ k < hi) ∨ k ∈ rowT A2) := by
    intro k hk hm
    simp at hk
    subst hk
    rcases hm with hm | hm
    · omega
    · rcases HKA.out _ hm with h1 | h1
      · have := HH.out.row.lt _ h1; omega
      · omega
  unfold GetR
  rw [HG.out, HQ.out]
  refine ⟨y, _, rfl, HP.out, ⟨bf, bl, br, nf, nl, lo, hi, A2, c2, l, HPR2.out.only HO3.out hno, rfl⟩, fun k hk => ?_, (HOT2.out.join HO3.out (fun i hi => .inr (by simp at hi; omega))), HY.out.only HO3.out (fun g hg => ⟨by simp; have := HWS.out; omega, hg.2⟩) (fun g hg => ⟨by have := HWS.out; omega, Nat.lt_of_lt_of_le hg.2 HO3.out.size, fun hm => by have := HLW.out g hm; omega⟩)⟩
  rcases List.mem_append.1 hk with h1 | h1
  · exact .inl (List.mem_append.2 (.inl h1))
  · rcases HKA.out k h1 with h2 | h2
    · exact .inl (List.mem_append.2 (.inr h2))
    · exact .inr (by omega)
/-- Get. -/
theorem Get_c {t : VT} {fail ps : List ByteArray} {r : Nat} {T : List Nat} {w : World} (h : Pr t fail r ps w T) (name : ByteArray) (hs : name.size ≤ maxLen) (hn : ps.length ≤ 1000000) :
    Calls Try.prog 6 #[.pointer (some ⟨r, 0, none⟩), .string name] w (GetR t fail r ps name T w) := by
  cases hb : nameB name with
  | false => exact get_bad h name hs hb
  | true =>
    cases hp : hasB ps name with
    | true => exact get_old h name hs hb hp
    | false => exact get_new h name hn hb hp
end Go.Proofs.Ytollcekcmnokaaa
