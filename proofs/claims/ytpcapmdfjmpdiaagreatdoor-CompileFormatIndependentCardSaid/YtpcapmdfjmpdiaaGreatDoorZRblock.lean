/-
  The reference's node at a block.
  The reference's node at a block.
  The reference's node, out of its arms.
-/
import Derived.Test.YtpcapmdfjmpdiaaGreatDoorZRnode
import Derived.Test.YtpcapmdfjmpdiaaGreatDoorZNpure
namespace Go.Proofs.YtpcapmdfjmpdiaaGreatDoor
open Go.RowKit Go.BigFrame NT
set_option linter.unusedVariables false
set_option linter.unusedSimpArgs false

theorem Ps.drewN {w : World} {g : Nat} {L : Option Addr} {cL : Nat} {ts : List Tok} {i c : Nat} (h : Ps w g L cL ts i c) (n : Nat) : Ps (w.drewN n) g L cL ts i c := h.bel (Bel.draw _ _)
theorem st_other {w : World} {g b j : Nat} {L : Option Addr} {cL : Nat} {ts : List Tok} {i c : Nat} (h : Ps w g L cL ts i c) (hb : b ≠ g) (hL : ∀ k, k ∈ rowT L → k ≠ b) (v : Value) : Ps (w.setCell ⟨b, j, none⟩ v) g L cL ts i c :=
  h.only (S := [b]) ((Only.refl [b] w).setCell (.inl (by simp)) _) (by simp; exact fun h => hb h.symm) (fun k hk => by simp; exact hL k hk)
set_option maxRecDepth 100000 in
set_option maxHeartbeats 3200000 in
theorem node_block_other (g : Nat) (L : Option Addr) (cL : Nat) (ts : List Tok) (hG : TsOk ts) (i d c : Nat) (t : Tok) (w : World) (hP : Ps w g L cL ts i c) (ht : ts[i]? = some t) (hd : d ≤ 32) (hk : t.k ≠ 6) (hnest : ¬ (t.k = 6 ∧ 0 < d ∨ blk t.k = true ∧ 32 ≤ d)) (hc : c < 4096) (hb : blk t.k = true) (m : Nat) (IH : ListM g L cL ts m) (hm : ts.length - (i + 1) ≤ m) :
    Calls Tryz.prog 60 #[.pointer (some ⟨g, 0, none⟩), .int .i64 d] w (NodeP g L cL ts w (ND t (ts.drop (i + 1)) d c)) := by
  have HP := Lib.hid hP
  have HT := Lib.hid ht
  have HBL := Lib.hid block_c
  have hi := (List.getElem?_eq_some_iff.1 ht).1
  have hn := hG.1
  have htk := hG.2 t (List.mem_of_getElem? ht)
  obtain ⟨g1, o1, hL, hga, ha⟩ : ∃ g1 o1, L = some ⟨g1, o1, none⟩ ∧ g1 < w.heap.size ∧ ∀ W, Bel w W → W.cell? ⟨g1, o1 + i * 5, none⟩ = some (.int .i64 t.k) ∧ W.cell? ⟨g1, o1 + i * 5 + 1, none⟩ = some (.int .i64 t.a) ∧ W.cell? ⟨g1, o1 + i * 5 + 2, none⟩ = some (.string (ofL t.s)) ∧ W.cell? ⟨g1, o1 + i * 5 + 3, none⟩ = some (.string (ofL t.p)) ∧ W.cell? ⟨g1, o1 + i * 5 + 4, none⟩ = some (.bool t.h) := by
    obtain ⟨g1, o1, e, h⟩ := tok_at hP.row ht
    exact ⟨g1, o1, e, hP.row.lt g1 (by rw [e]; simp [rowT]), h⟩
  subst hL
  have HTA := Lib.hid ha
  have hgl := hP.blk.lt
  have hsz1 : (ofL t.s).size ≤ reachBytes := by have := htk.2.2.1; show t.s.length ≤ reachBytes; unfold reachBytes; omega
  have hsz2 : (ofL t.p).size ≤ reachBytes := by have := htk.2.2.2; show t.p.length ≤ reachBytes; unfold reachBytes; omega
  have hg1 : ¬ w.heap.size + 1 = g := by omega
  have hg2 : ¬ w.heap.size = g := by omega
  have hg3 : ¬ g = w.heap.size + 1 := by omega
  have hg4 : ¬ g = w.heap.size := by omega
  have HPB := Lib.hid (fun (W : World) (hb : Bel w W) => (HP.out.bel hb).cells)
  obtain ⟨n, hN⟩ : ∃ n, n = ts.length := ⟨_, rfl⟩
  rw [← hN] at hi hn HPB
  have HN := Lib.hid hN
  clear hP ht ha hN hG
  go_enter Tryz.func60, Tryz.ntmps60
  go_wp2_with fail
  refine region_begin (T := [w.heap.size + 1]) (by kernel_rfl) ?_
  have HZ := Lib.hid (Blk.new w 69 [.int .i64 0, .int .i64 0, .string ⟨#[]⟩, .string ⟨#[]⟩, .bool false, .bool false, .slice none 0 0, .slice none 0 0]).drew
  have HBW : Hid (Bel w (w.alloc (.cells #[.int .i64 0, .int .i64 0, .string ⟨#[]⟩, .string ⟨#[]⟩, .bool false, .bool false, .slice none 0 0, .slice none 0 0] 69)).drew) := Lib.hid ((Bel.alloc _ _).trans (Bel.drew _))
  have HWS : Hid (((w.alloc (.cells #[.int .i64 0, .int .i64 0, .string ⟨#[]⟩, .string ⟨#[]⟩, .bool false, .bool false, .slice none 0 0, .slice none 0 0] 69)).drew).heap.size = w.heap.size + 1) := Lib.hid (by simp [World.drew])
  generalize (w.alloc (.cells #[.int .i64 0, .int .i64 0, .string ⟨#[]⟩, .string ⟨#[]⟩, .bool false, .bool false, .slice none 0 0, .slice none 0 0] 69)).drew = W at HZ HBW HWS ⊢
  have HBL0 := Lib.hid (fun (X : Later [w.heap.size + 1] W) => bel_on1 HBW.out X.h (Nat.le_succ _))
  have p0 : ∀ X : Later [w.heap.size + 1] W, X.w.cell? ⟨g, 0, none⟩ = some (.slice (some ⟨g1, o1, none⟩) n cL) := fun X => (HPB.out X.w (HBL0.out X)).1
  have p1 : ∀ X : Later [w.heap.size + 1] W, X.w.cell? ⟨g, 1, none⟩ = some (.int .i64 i) := fun X => (HPB.out X.w (HBL0.out X)).2.1
  have t0 : ∀ X : Later [w.heap.size + 1] W, X.w.cell? ⟨g1, o1 + i * 5, none⟩ = some (.int .i64 t.k) := fun X => (HTA.out X.w (HBL0.out X)).1
  have t1 : ∀ X : Later [w.heap.size + 1] W, X.w.cell? ⟨g1, o1 + i * 5 + 1, none⟩ = some (.int .i64 t.a) := fun X => (HTA.out X.w (HBL0.out X)).2.1
  have t2 : ∀ X : Later [w.heap.size + 1] W, X.w.cell? ⟨g1, o1 + i * 5 + 2, none⟩ = some (.string (ofL t.s)) := fun X => (HTA.out X.w (HBL0.out X)).2.2.1
  have t3 : ∀ X : Later [w.heap.size + 1] W, X.w.cell? ⟨g1, o1 + i * 5 + 3, none⟩ = some (.string (ofL t.p)) := fun X => (HTA.out X.w (HBL0.out X)).2.2.2.1
  have t4 : ∀ X : Later [w.heap.size + 1] W, X.w.cell? ⟨g1, o1 + i * 5 + 4, none⟩ = some (.bool t.h) := fun X => (HTA.out X.w (HBL0.out X)).2.2.2.2
  refine region_seg [true, true, true, true, true, true, true, true, true, true] 2 (by kernel_rfl) (by kernel_rfl) (by kernel_rfl) rfl (fun _ _ d _ _ h => by cases d <;> exact h) ?_
  repeat (first | with_reducible refine wpMask_pass ?_ | (refine wpMask_want (by rfl) (fun K hK => ?_); go_big_quiet_op; refine hK _ ?_; clear hK K))
  with_reducible refine wpMask_nil ?_
  clear p0 p1 t0 t1 t2 t3 t4
  refine region_make 10 (v := .pointer (some ⟨W.heap.size, 0, none⟩)) (w1 := W.alloc (.cells #[.int .i64 0, .int .i64 0, .string ⟨#[]⟩, .string ⟨#[]⟩, .bool false] 138)) (by kernel_rfl) rfl (by rfl) (by go_simp) ((Only.refl _ _).alloc _) ?_
  simp only [List.getElem_toArray, List.getElem_cons_zero, List.getElem_cons_succ, Act.put, List.setIfInBounds_toArray, List.set_cons_zero, List.set_cons_succ]
  have hk0 := Blk.new W 138 [.int .i64 0, .int .i64 0, .string ⟨#[]⟩, .string ⟨#[]⟩, .bool false]
  have hk1 := set5 hk0 (.int .i64 t.k) (.int .i64 t.a) (.string (ofL t.s)) (.string (ofL t.p)) (.bool t.h)
  have ho1 := only5 (W.alloc (.cells #[.int .i64 0, .int .i64 0, .string ⟨#[]⟩, .string ⟨#[]⟩, .bool false] 138)) W.heap.size (.int .i64 t.k) (.int .i64 t.a) (.string (ofL t.s)) (.string (ofL t.p)) (.bool t.h)
  rw [HWS.out] at hk1 ho1
  have ho2 : Only [w.heap.size + 1] W _ := ((Only.refl [w.heap.size + 1] W).alloc _).trans ho1
  obtain ⟨z0, z1, z2, z3, z4⟩ := cells5 hk0
  obtain ⟨f0, f1, f2, f3, f4⟩ := frees5 hk0
  rw [HWS.out] at z0 z1 z2 z3 z4 f0 f1 f2 f3 f4 ⊢
  refine region_store (w1 := (((((W.alloc (.cells #[.int .i64 0, .int .i64 0, .string ⟨#[]⟩, .string ⟨#[]⟩, .bool false] 138)).setCell ⟨w.heap.size + 1, 0, none⟩ (.int .i64 t.k)).setCell ⟨w.heap.size + 1, 1, none⟩ (.int .i64 t.a)).setCell ⟨w.heap.size + 1, 2, none⟩ (.string (ofL t.s))).setCell ⟨w.heap.size + 1, 3, none⟩ (.string (ofL t.p))).setCell ⟨w.heap.size + 1, 4, none⟩ (.bool t.h)) 11 (by kernel_rfl) rfl (by rfl) (by go_simp) ho1 ?_
  have HBT := Lib.hid hk1
  have HBV := Lib.hid (bel_on1 HBW.out ho2 (Nat.le_succ _))
  have HZV := Lib.hid (HZ.out.only ho2 (by simp))
  have HVS : Hid (w.heap.size + 2 ≤ _) := Lib.hid hk1.lt
  clear hk0 hk1 ho1 ho2 z0 z1 z2 z3 z4 f0 f1 f2 f3 f4
  generalize (((((W.alloc (.cells #[.int .i64 0, .int .i64 0, .string ⟨#[]⟩, .string ⟨#[]⟩, .bool false] 138)).setCell ⟨w.heap.size + 1, 0, none⟩ (.int .i64 t.k)).setCell ⟨w.heap.size + 1, 1, none⟩ (.int .i64 t.a)).setCell ⟨w.heap.size + 1, 2, none⟩ (.string (ofL t.s))).setCell ⟨w.heap.size + 1, 3, none⟩ (.string (ofL t.p))).setCell ⟨w.heap.size + 1, 4, none⟩ (.bool t.h) = V at HBT HBV HZV HVS ⊢
  simp only [List.getElem_toArray, List.getElem_cons_zero, List.getElem_cons_succ, Act.put, List.setIfInBounds_toArray, List.set_cons_zero, List.set_cons_succ]
  refine region_end (by kernel_rfl) ?_
  obtain ⟨k0, k1, k2, k3, k4⟩ := cells5 HBT.out
  obtain ⟨q0, q1, q2⟩ := HPB.out V HBV.out
  have HPV := Lib.hid (HP.out.bel HBV.out)
  obtain ⟨q4, q5⟩ := HPV.out.frees
  obtain ⟨y0, y1, y2, y3, y4, y5, y6, y7⟩ := cells8 HZV.out
  have HND := Lib.hid hnest
  have HK6 := Lib.hid hk
  have h6 : ((t.k : Int) == 6) = false := by rw [beq_eq_false_iff_ne]; omega
  have hd1 : ¬ (0 : Int) < (d : Int) ∨ t.k ≠ 6 := by
    by_cases h : t.k = 6
    · exact .inl (by intro h2; exact hnest (.inl ⟨h, by omega⟩))
    · exact .inr h
  have hd2 : ¬ (32 : Int) ≤ (d : Int) := by intro h; exact hnest (.inr ⟨hb, by omega⟩)
  have hd9 : d + 1 ≤ 32 := by omega
  have HBF : Hid (blkI (t.k : Int) = true) := Lib.hid (by rw [blkI_nat]; exact hb)
  have hc1 : ¬ (4096 : Int) ≤ (c : Int) := by omega
  have HKB := Lib.hid hb
  have hop : opI t.k = (t.k : Int) := by unfold opI; rw [if_neg (by intro h; rw [h] at hb; cases hb)]
  have HIH : Hid (∀ (i' c' : Nat) (ie : Bool) (W : World), Ps W g (some ⟨g1, o1, none⟩) cL ts i' c' → i' ≤ n → i + 1 ≤ i' → c' ≤ 4096 → Calls Tryz.prog 33 #[.pointer (some ⟨g, 0, none⟩), .int .i64 (t.k : Int), .bool ie, .int .i64 ((d : Int) + 1)] W (ListP g (some ⟨g1, o1, none⟩) cL ts W (P (ts.drop i') t.k ie (d + 1) c'))) := Lib.hid (fun i' c' ie W h1 h2 h3 h4 => by
    have := IH i' t.k ie (d + 1) c' W h1 (by rw [← HN.out]; exact h2) (by omega) hd9 h4 (by have := htk.1; exact this)
    rw [hop] at this
    exact this)
  have HRT : Hid (∀ k, k ∈ rowT (some (⟨g1, o1, none⟩ : Addr)) → k < w.heap.size) := Lib.hid (fun k hk => by rw [rowT_some] at hk; simp at hk; omega)
  clear hnest hb hd1 IH hk hop
  have HV3 := Lib.hid (fun ob => ((HBT.out.far (p := ⟨g, 2, none⟩) hg1 (.int .i64 ((c : Int) + 1))).far (p := ⟨g, 1, none⟩) hg1 (.int .i64 ((i : Int) + 1))).alloc ob)
  have HZ3 := Lib.hid (fun ob => ((HZV.out.far (p := ⟨g, 2, none⟩) hg2 (.int .i64 ((c : Int) + 1))).far (p := ⟨g, 1, none⟩) hg2 (.int .i64 ((i : Int) + 1))).alloc ob)
  have hP2 : Ps (V.setCell ⟨g, 2, none⟩ (.int .i64 ((c : Int) + 1))) g (some ⟨g1, o1, none⟩) cL ts i (c + 1) := HPV.out.setc (c + 1)
  have hP3 : Ps ((V.setCell ⟨g, 2, none⟩ (.int .i64 ((c : Int) + 1))).setCell ⟨g, 1, none⟩ (.int .i64 ((i : Int) + 1))) g (some ⟨g1, o1, none⟩) cL ts (i + 1) (c + 1) := hP2.set_ (i + 1)
  have HP4 := Lib.hid (fun ob => hP3.bel (Bel.alloc _ ob))
  have hO3 : Only [g] w ((V.setCell ⟨g, 2, none⟩ (.int .i64 ((c : Int) + 1))).setCell ⟨g, 1, none⟩ (.int .i64 ((i : Int) + 1))) := (((bel_only HBV.out).more (by simp)).setCell (.inl (by simp)) _).setCell (.inl (by simp)) _
  have HO4 := Lib.hid (fun ob => hO3.alloc ob)
  have HN4 := Lib.hid (Blk.new ((V.setCell ⟨g, 2, none⟩ (.int .i64 ((c : Int) + 1))).setCell ⟨g, 1, none⟩ (.int .i64 ((i : Int) + 1))) 69 [.int .i64 t.k, .int .i64 t.a, .string (ofL t.s), .string (ofL t.p), .bool t.h, .bool false, .slice none 0 0, .slice none 0 0])
  have m0 := fun ob => (HV3.out ob).cell 0
  simp only [List.getElem?_cons_zero, List.getElem?_cons_succ] at m0
  clear hP2 hP3 hO3
  have HSZ : Hid (((V.setCell ⟨g, 2, none⟩ (.int .i64 ((c : Int) + 1))).setCell ⟨g, 1, none⟩ (.int .i64 ((i : Int) + 1))).heap.size = V.heap.size) := Lib.hid (by simp [World.setCell])
  rw [HSZ.out] at HN4
  have hnb : ¬ V.heap.size = g := by have := HVS.out; omega
  have hnb2 : ¬ g = V.heap.size := by omega
  have hnb3 : ¬ V.heap.size = w.heap.size := by have := HVS.out; omega
  have hnb4 : ¬ V.heap.size = w.heap.size + 1 := by have := HVS.out; omega
  go_wp2_with (go_at_call 89; ((with_reducible refine (HBL.out _ _).mono ?_); rintro e w1 ⟨rfl, hw⟩; obtain rfl := hw.symm; rw [HBF.out]))
  refine (HIH.out (i + 1) (c + 1) false _ (HP4.out _) (by omega) (Nat.le_refl _) (by omega)).mono ?_
  rintro e w1 ⟨hO, hp⟩
  have HO1 := Lib.hid ((HO4.out _).trans hO)
  have HZ1 := Lib.hid ((HZ3.out _).only hO (by simp; exact hg2))
  have HT1 := Lib.hid ((HV3.out _).only hO (by simp; exact hg1))
  have HN1 := Lib.hid (HN4.out.only hO (by simp; exact hnb))
  have HS1 : Hid (V.heap.size + 1 ≤ w1.heap.size) := Lib.hid (by have := hO.size; rw [show (((V.setCell ⟨g, 2, none⟩ (.int .i64 ((c : Int) + 1))).setCell ⟨g, 1, none⟩ (.int .i64 ((i : Int) + 1))).alloc (.cells #[.int .i64 t.k, .int .i64 t.a, .string (ofL t.s), .string (ofL t.p), .bool t.h, .bool false, .slice none 0 0, .slice none 0 0] 69)).heap.size = V.heap.size + 1 by simp [World.setCell]] at this; exact this)
  clear hO m0
  cases hres : P (ts.drop (i + 1)) t.k false (d + 1) (c + 1) with
  | error ak =>
    obtain ⟨a, k⟩ := ak
    rw [hres] at hp
    dsimp only at hp
    subst hp
    have hk0 : ((k : Int) != 0) = true := bne_iff_ne.2 (by have := P_code hres; omega)
    have hk1 : ¬ (k : Int) = 0 := by have := P_code hres; omega
    have HRES := Lib.hid hres
    obtain ⟨z0, z1, z2, z3, z4, z5, z6, z7⟩ := cells8 HZ1.out
    have r0 := HZ1.out.free 0
    have r1 := HZ1.out.free 1
    have r2 := HZ1.out.free 2
    have r3 := HZ1.out.free 3
    have r4 := HZ1.out.free 4
    have r5 := HZ1.out.free 5
    have r6 := HZ1.out.free 6
    have r7 := HZ1.out.free 7
    clear hres
    go_wp2_with fail
    rw [show ND t (ts.drop (i + 1)) d c = .error (a, k) by unfold ND; rw [if_neg HND.out, if_neg (by omega), if_neg (by rw [HKB.out]; decide), HRES.out]]
    exact node_err rfl rfl rfl HZ1.out HO1.out
  | ok x =>
    obtain ⟨b, rr, c1⟩ := x
    rw [hres] at hp
    obtain ⟨A, cA, mm, hers, hrow, rfl, i1, hPs, hi1, hdr⟩ := hp
    have hpg := P_good hres (by omega) hd9
    have HRES := Lib.hid hres
    have HER := Lib.hid hers
    have HRW := Lib.hid hrow
    have HPS := Lib.hid hPs
    have hc14 := hpg.2.1
    rw [← HN.out] at hi1
    have HDR := Lib.hid hdr
    obtain ⟨x0, x1, x2, x3, x4, x5, x6, x7⟩ := cells8 HN1.out
    have f6 := HN1.out.free 6
    clear hres hers hrow hPs hpg hdr
    go_wp2_with fail
    have HRL := Lib.hid (fun k hk => show k ≠ V.heap.size by have := HRT.out k hk; have := HVS.out; omega)
    have HPS2 := Lib.hid (st_other (j := 6) HPS.out hnb HRL.out (.slice A mm.length cA))
    have HN2 := Lib.hid (HN1.out.set_ 6 (.slice A mm.length cA))
    have HZ2 := Lib.hid (HZ1.out.far (p := ⟨V.heap.size, 6, none⟩) (fun h => hnb3 h.symm) (.slice A mm.length cA))
    have HT2 := Lib.hid (HT1.out.far (p := ⟨V.heap.size, 6, none⟩) (fun h => hnb4 h.symm) (.slice A mm.length cA))
    have HO2 := Lib.hid (HO1.out.setCell (p := ⟨V.heap.size, 6, none⟩) (.inr (by have := HVS.out; simp; omega)) (.slice A mm.length cA))
    have HRW2 : Hid (Row (w1.setCell ⟨V.heap.size, 6, none⟩ (.slice A mm.length cA)) (fun b => V.heap.size < b ∧ b < (w1.setCell ⟨V.heap.size, 6, none⟩ (.slice A mm.length cA)).heap.size) A cA mm) := Lib.hid (HRW.out.onlyS (S := [V.heap.size]) ((Only.refl _ _).setCell (.inl (by simp)) _) (fun b hb => ⟨by have := hb.1; simp [World.setCell] at this; simp; omega, hb.2⟩) (fun b hb => ⟨by have := hb.1; simp [World.setCell] at this; omega, by have := hb.2; simpa [World.setCell] using this⟩))
    have HS2 : Hid (V.heap.size + 1 ≤ (w1.setCell ⟨V.heap.size, 6, none⟩ (.slice A mm.length cA)).heap.size) := Lib.hid (by have := HS1.out; simpa [World.setCell] using this)
    simp only [List.set_cons_zero, List.set_cons_succ] at HN2
    clear x0 x1 x2 x3 x4 x5 x6 x7 f6 k0 k1 k2 k3 k4 q0 q1 q2 q4 q5 y0 y1 y2 y3 y4 y5 y6 y7
    clear HPS HN1 HZ1 HT1 HO1 HRW HS1
    generalize w1.setCell ⟨V.heap.size, 6, none⟩ (.slice A mm.length cA) = w2 at HPS2 HN2 HZ2 HT2 HO2 HRW2 HS2 ⊢
    obtain ⟨q0, q1, q2⟩ := HPS2.out.cells
    rw [← HN.out] at q0
    cases rr with
    | nil =>
      have hin : i1 = n := by
        have := congrArg List.length HDR.out
        rw [List.length_drop, ← HN.out] at this
        simp at this; omega
      subst hin
      go_quiet (fail)
      have HPS3 := Lib.hid (HPS2.out.drewN nq)
      have HN3 := Lib.hid (HN2.out.drewN nq)
      have HZ3 := Lib.hid (HZ2.out.drewN nq)
      have HT3 := Lib.hid (HT2.out.drewN nq)
      have HO3 := Lib.hid (HO2.out.drewN nq)
      have HS3 : Hid (V.heap.size + 1 ≤ (w2.drewN nq).heap.size) := HS2
      have HRW3 := Lib.hid (HRW2.out.onlyS (S := []) (Q' := fun b => V.heap.size < b ∧ b < (w2.drewN nq).heap.size) ((Only.refl [] w2).drewN nq) (fun b hb => ⟨by simp, hb.2⟩) (fun b hb => hb))
      clear HPS2 HN2 HZ2 HT2 HO2 HS2 HRW2
      generalize w2.drewN nq = w3 at HPS3 HN3 HZ3 HT3 HO3 HS3 HRW3 ⊢
      obtain ⟨q0, q1, q2⟩ := HPS3.out.cells
      rw [← HN.out] at q0
      go_wp2_with fail
      go_quiet (fail)
      have HPS4 := Lib.hid (HPS3.out.drewN nq)
      have HN4 := Lib.hid (HN3.out.drewN nq)
      have HZ4 := Lib.hid (HZ3.out.drewN nq)
      have HT4 := Lib.hid (HT3.out.drewN nq)
      have HO4 := Lib.hid (HO3.out.drewN nq)
      have HS4 : Hid (V.heap.size + 1 ≤ (w3.drewN nq).heap.size) := HS3
      have HRW4 := Lib.hid (HRW3.out.onlyS (S := []) (Q' := fun b => V.heap.size < b ∧ b < (w3.drewN nq).heap.size) ((Only.refl [] w3).drewN nq) (fun b hb => ⟨by simp, hb.2⟩) (fun b hb => hb))
      clear HPS3 HN3 HZ3 HT3 HO3 HS3 HRW3
      generalize w3.drewN nq = w4 at HPS4 HN4 HZ4 HT4 HO4 HS4 HRW4 ⊢
      obtain ⟨q0, q1, q2⟩ := HPS4.out.cells
      rw [← HN.out] at q0
      go_wp2_with fail
      refine region_begin (T := [w.heap.size]) (by kernel_rfl) ?_
      have HZD := Lib.hid HZ4.out.drew
      have HTD := Lib.hid HT4.out.drew
      have HOD := Lib.hid HO4.out.drew
      clear q0 q1 q2
      generalize w4.drew = D at HZD HTD HOD ⊢
      have k1 : ∀ X : Later [w.heap.size] D, X.w.cell? ⟨w.heap.size + 1, 1, none⟩ = some (.int .i64 t.a) := fun X => (HTD.out.only X.h (by simp)).cell 1
      refine region_seg [false, true, true] 4 (by kernel_rfl) (by kernel_rfl) (by kernel_rfl) rfl (fun _ _ d _ _ h => by cases d <;> exact h) ?_
      repeat (first | with_reducible refine wpMask_pass ?_ | (refine wpMask_want (by rfl) (fun K hK => ?_); go_big_quiet_op; refine hK _ ?_; clear hK K))
      with_reducible refine wpMask_nil ?_
      clear k1
      refine region_make 0 (v := .agg #[.int .i64 0, .int .i64 0, .string ByteArray.empty, .string ByteArray.empty, .bool false, .bool false, .slice none 0 0, .slice none 0 0]) (w1 := D) (by kernel_rfl) rfl (by rfl) (by go_simp; rfl) (Only.refl _ _) ?_
      simp only [List.getElem_toArray, List.getElem_cons_zero, List.getElem_cons_succ, Act.put, List.setIfInBounds_toArray, List.set_cons_zero, List.set_cons_succ]
      obtain ⟨y0, y1, y2, y3, y4, y5, y6, y7⟩ := cells8 HZD.out
      have r0 := HZD.out.free 0
      have r1 := HZD.out.free 1
      have r2 := HZD.out.free 2
      have r3 := HZD.out.free 3
      have r4 := HZD.out.free 4
      have r5 := HZD.out.free 5
      have r6 := HZD.out.free 6
      have r7 := HZD.out.free 7
      refine region_store (w1 := st8 D w.heap.size (.int .i64 0) (.int .i64 0) (.string ByteArray.empty) (.string ByteArray.empty) (.bool false) (.bool false) (.slice none 0 0) (.slice none 0 0)) 3 (by kernel_rfl) rfl (by rfl) (by go_simp) (only8 _ _ _ _ _ _ _ _ _ _) ?_
      simp only [List.getElem_toArray, List.getElem_cons_zero, List.getElem_cons_succ, Act.put, List.setIfInBounds_toArray, List.set_cons_zero, List.set_cons_succ]
      clear y0 y1 y2 y3 y4 y5 y6 y7 r0 r1 r2 r3 r4 r5 r6 r7
      refine region_seg [false, false, false, false, true, true] 0 (by kernel_rfl) (by kernel_rfl) (by kernel_rfl) rfl (fun _ _ d _ _ h => by cases d <;> exact h) ?_
      repeat (first | with_reducible refine wpMask_pass ?_ | (refine wpMask_want (by rfl) (fun K hK => ?_); go_big_quiet_op; refine hK _ ?_; clear hK K))
      with_reducible refine wpMask_nil ?_
      refine region_end (by kernel_rfl) ?_
      go_wp2_with fail
      rw [show ND t (ts.drop (i + 1)) d c = .error (t.a, 7) by unfold ND; rw [if_neg HND.out, if_neg (by omega), if_neg (by rw [HKB.out]; decide), HRES.out]]
      exact node_err rfl rfl rfl HZD.out HOD.out
    | cons u r2 =>
      have hut : ts[i1]? = some u := by
        have := congrArg (fun l : List Tok => l[0]?) HDR.out
        simpa [List.getElem?_drop] using this
      have hin : i1 < n := by rw [HN.out]; exact (List.getElem?_eq_some_iff.1 hut).1
      have hinI : (i1 : Int) < (n : Int) := by omega
      obtain ⟨g9, o9, hL9, hu9⟩ := tok_at HPS2.out.row hut
      injection hL9 with hL9
      injection hL9 with e1 e2
      subst e1 e2
      obtain ⟨u0, u1, u2, u3, u4⟩ := hu9 w2 (Bel.refl _)
      have HDR2 : Hid (ts.drop (i1 + 1) = r2) := Lib.hid (by
        have h := HDR.out
        rw [drop_at hut] at h
        injection h)
      have hige : i + 1 ≤ i1 := by
        have h := P_rest HRES.out
        rw [← HDR.out, List.length_drop, List.length_drop, ← HN.out] at h
        omega
      by_cases hu : u.k = 7
      · have hu7 : ((u.k : Int) == 7) = true := by rw [hu]; rfl
        go_quiet (fail)
        have HPS3 := Lib.hid (HPS2.out.drewN nq)
        have HN3 := Lib.hid (HN2.out.drewN nq)
        have HZ3 := Lib.hid (HZ2.out.drewN nq)
        have HT3 := Lib.hid (HT2.out.drewN nq)
        have HO3 := Lib.hid (HO2.out.drewN nq)
        have HS3 : Hid (V.heap.size + 1 ≤ (w2.drewN nq).heap.size) := HS2
        have HRW3 := Lib.hid (HRW2.out.onlyS (S := []) (Q' := fun b => V.heap.size < b ∧ b < (w2.drewN nq).heap.size) ((Only.refl [] w2).drewN nq) (fun b hb => ⟨by simp, hb.2⟩) (fun b hb => hb))
        clear HPS2 HN2 HZ2 HT2 HO2 HS2 HRW2
        generalize w2.drewN nq = w3 at HPS3 HN3 HZ3 HT3 HO3 HS3 HRW3 ⊢
        obtain ⟨q0, q1, q2⟩ := HPS3.out.cells
        rw [← HN.out] at q0
        obtain ⟨x0, x1, x2, x3, x4, x5, x6, x7⟩ := cells8 HN3.out
        have q5 := HPS3.out.frees.1
        have f5 := HN3.out.free 5
        have k0 := HT3.out.cell 0
        simp only [List.getElem?_cons_zero] at k0
        clear u0 u1 u2 u3 u4 hu9
        go_wp2_with fail
        have hP5 : Ps (w3.setCell ⟨g, 1, none⟩ (.int .i64 ((i1 : Int) + 1))) g (some ⟨g1, o1, none⟩) cL ts (i1 + 1) c1 := HPS3.out.set_ (i1 + 1)
        have HPS5 := Lib.hid (st_other (j := 5) hP5 hnb HRL.out (.bool true))
        have HN5 := Lib.hid ((HN3.out.far (p := ⟨g, 1, none⟩) hnb (.int .i64 ((i1 : Int) + 1))).set_ 5 (.bool true))
        have HZ5 := Lib.hid ((HZ3.out.far (p := ⟨g, 1, none⟩) hg2 (.int .i64 ((i1 : Int) + 1))).far (p := ⟨V.heap.size, 5, none⟩) (fun h => hnb3 h.symm) (.bool true))
        have HT5 := Lib.hid ((HT3.out.far (p := ⟨g, 1, none⟩) hg1 (.int .i64 ((i1 : Int) + 1))).far (p := ⟨V.heap.size, 5, none⟩) (fun h => hnb4 h.symm) (.bool true))
        have HO5 := Lib.hid ((HO3.out.setCell (p := ⟨g, 1, none⟩) (.inl (by simp)) (.int .i64 ((i1 : Int) + 1))).setCell (p := ⟨V.heap.size, 5, none⟩) (.inr (by have := HVS.out; simp; omega)) (.bool true))
        have HS5 : Hid (V.heap.size + 1 ≤ ((w3.setCell ⟨g, 1, none⟩ (.int .i64 ((i1 : Int) + 1))).setCell ⟨V.heap.size, 5, none⟩ (.bool true)).heap.size) := Lib.hid (by have := HS3.out; simpa [World.setCell] using this)
        have HRW5 := Lib.hid (HRW3.out.onlyS (S := [g, V.heap.size]) (Q' := fun b => V.heap.size < b ∧ b < ((w3.setCell ⟨g, 1, none⟩ (.int .i64 ((i1 : Int) + 1))).setCell ⟨V.heap.size, 5, none⟩ (.bool true)).heap.size) (((Only.refl [g, V.heap.size] w3).setCell (p := ⟨g, 1, none⟩) (.inl (by simp)) (.int .i64 ((i1 : Int) + 1))).setCell (p := ⟨V.heap.size, 5, none⟩) (.inl (by simp)) (.bool true)) (fun b hb => ⟨by have := hb.1; have := HVS.out; simp; omega, hb.2⟩) (fun b hb => ⟨hb.1, by have := hb.2; simpa [World.setCell] using this⟩))
        simp only [List.set_cons_zero, List.set_cons_succ] at HN5
        clear hP5 HPS3 HN3 HZ3 HT3 HO3 HS3 HRW3 x0 x1 x2 x3 x4 x5 x6 x7 f5 q0 q1 q2 q5 k0
        generalize (w3.setCell ⟨g, 1, none⟩ (.int .i64 ((i1 : Int) + 1))).setCell ⟨V.heap.size, 5, none⟩ (.bool true) = w5 at HPS5 HN5 HZ5 HT5 HO5 HS5 HRW5 ⊢
        refine (HIH.out (i1 + 1) c1 true w5 HPS5.out (by omega) (by omega) (by omega)).mono ?_
        rintro e w6 ⟨hO, hp⟩
        rw [HDR2.out] at hp
        have HO6 := Lib.hid (HO5.out.trans hO)
        have HZ6 := Lib.hid (HZ5.out.only hO (by simp; exact hg2))
        have HT6 := Lib.hid (HT5.out.only hO (by simp; exact hg1))
        have HN6 := Lib.hid (HN5.out.only hO (by simp; exact hnb))
        have HS6 : Hid (V.heap.size + 1 ≤ w6.heap.size) := Lib.hid (by have := hO.size; have := HS5.out; omega)
        have HW56 : Hid (w5.heap.size ≤ w6.heap.size ∧ V.heap.size + 1 ≤ w5.heap.size) := Lib.hid ⟨hO.size, HS5.out⟩
        have HRW6 := Lib.hid (HRW5.out.onlyS (Q' := fun b => V.heap.size < b ∧ b < w6.heap.size) hO (fun b hb => ⟨by have := hb.1; have := HVS.out; simp; omega, hb.2⟩) (fun b hb => ⟨hb.1, by have := HW56.out; omega⟩))
        clear hO HPS5 HN5 HZ5 HT5 HO5 HS5 HRW5
        obtain ⟨x0, x1, x2, x3, x4, x5, x6, x7⟩ := cells8 HN6.out
        have f7 := HN6.out.free 7
        cases hres2 : P r2 t.k true (d + 1) c1 with
        | error ak =>
          obtain ⟨a, k⟩ := ak
          rw [hres2] at hp
          dsimp only at hp
          subst hp
          have hk0 : ((k : Int) != 0) = true := bne_iff_ne.2 (by have := P_code hres2; omega)
          have hk1 : ¬ (k : Int) = 0 := by have := P_code hres2; omega
          have HRES2 := Lib.hid hres2
          clear hres2
          obtain ⟨z0, z1, z2, z3, z4, z5, z6, z7⟩ := cells8 HZ6.out
          have r0 := HZ6.out.free 0
          have r1 := HZ6.out.free 1
          have r2 := HZ6.out.free 2
          have r3 := HZ6.out.free 3
          have r4 := HZ6.out.free 4
          have r5 := HZ6.out.free 5
          have r6 := HZ6.out.free 6
          have r7 := HZ6.out.free 7
          go_wp2_with fail
          rw [show ND t (ts.drop (i + 1)) d c = .error (a, k) by unfold ND; rw [if_neg HND.out, if_neg (by omega), if_neg (by rw [HKB.out]; decide), HRES.out]; dsimp only; rw [if_pos hu, HRES2.out]]
          exact node_err rfl rfl rfl (HZ6.out.far (p := ⟨V.heap.size, 7, none⟩) (fun h => hnb3 h.symm) _) (HO6.out.setCell (p := ⟨V.heap.size, 7, none⟩) (.inr (by have := HVS.out; simp; omega)) _)
        | ok x =>
          obtain ⟨b2, rr2, c2⟩ := x
          rw [hres2] at hp
          obtain ⟨B, cB, mv, hers2, hrow2, rfl, i2, hPs2, hi2, hdr2⟩ := hp
          have HRES2 := Lib.hid hres2
          have HER2 := Lib.hid hers2
          rw [← HN.out] at hi2
          have HDR3 := Lib.hid hdr2
          have HRV6 := Lib.hid hrow2
          have HPS6 := Lib.hid hPs2
          clear hres2 hers2 hrow2 hPs2 hdr2
          go_wp2_with fail
          have HPS7 := Lib.hid (st_other (j := 7) HPS6.out hnb HRL.out (.slice B mv.length cB))
          have HN7 := Lib.hid (HN6.out.set_ 7 (.slice B mv.length cB))
          have HZ7 := Lib.hid (HZ6.out.far (p := ⟨V.heap.size, 7, none⟩) (fun h => hnb3 h.symm) (.slice B mv.length cB))
          have HT7 := Lib.hid (HT6.out.far (p := ⟨V.heap.size, 7, none⟩) (fun h => hnb4 h.symm) (.slice B mv.length cB))
          have HO7 := Lib.hid (HO6.out.setCell (p := ⟨V.heap.size, 7, none⟩) (.inr (by have := HVS.out; simp; omega)) (.slice B mv.length cB))
          have HS7 : Hid (V.heap.size + 1 ≤ (w6.setCell ⟨V.heap.size, 7, none⟩ (.slice B mv.length cB)).heap.size) := Lib.hid (by have := HS6.out; simpa [World.setCell] using this)
          have HRW7 := Lib.hid (HRW6.out.onlyS (S := [V.heap.size]) (Q' := fun b => V.heap.size < b ∧ b < (w6.setCell ⟨V.heap.size, 7, none⟩ (.slice B mv.length cB)).heap.size) ((Only.refl [V.heap.size] w6).setCell (p := ⟨V.heap.size, 7, none⟩) (.inl (by simp)) (.slice B mv.length cB)) (fun b hb => ⟨by have := hb.1; simp; omega, hb.2⟩) (fun b hb => ⟨hb.1, by have := hb.2; simpa [World.setCell] using this⟩))
          have HRV7 := Lib.hid (HRV6.out.onlyS (S := [V.heap.size]) (Q' := fun b => V.heap.size < b ∧ b < (w6.setCell ⟨V.heap.size, 7, none⟩ (.slice B mv.length cB)).heap.size) ((Only.refl [V.heap.size] w6).setCell (p := ⟨V.heap.size, 7, none⟩) (.inl (by simp)) (.slice B mv.length cB)) (fun b hb => ⟨by have := hb.1; have := HW56.out; simp; omega, hb.2⟩) (fun b hb => ⟨by have := hb.1; have := HW56.out; omega, by have := hb.2; simpa [World.setCell] using this⟩))
          simp only [List.set_cons_zero, List.set_cons_succ] at HN7
          clear HPS6 HN6 HZ6 HT6 HO6 HS6 HRW6 HRV6 HW56 x0 x1 x2 x3 x4 x5 x6 x7 f7
          generalize w6.setCell ⟨V.heap.size, 7, none⟩ (.slice B mv.length cB) = w7 at HPS7 HN7 HZ7 HT7 HO7 HS7 HRW7 HRV7 ⊢
          obtain ⟨q0, q1, q2⟩ := HPS7.out.cells
          rw [← HN.out] at q0
          cases rr2 with
          | nil =>
            have hin2 : i2 = n := by
              have := congrArg List.length HDR3.out
              rw [List.length_drop, ← HN.out] at this
              simp at this; omega
            subst hin2
            go_quiet (fail)
            have HPS8 := Lib.hid (HPS7.out.drewN nq)
            have HN8 := Lib.hid (HN7.out.drewN nq)
            have HZ8 := Lib.hid (HZ7.out.drewN nq)
            have HT8 := Lib.hid (HT7.out.drewN nq)
            have HO8 := Lib.hid (HO7.out.drewN nq)
            have HS8 : Hid (V.heap.size + 1 ≤ (w7.drewN nq).heap.size) := HS7
            have HRW8 := Lib.hid (HRW7.out.onlyS (S := []) (Q' := fun b => V.heap.size < b ∧ b < (w7.drewN nq).heap.size) ((Only.refl [] w7).drewN nq) (fun b hb => ⟨by simp, hb.2⟩) (fun b hb => hb))
            have HRV8 := Lib.hid (HRV7.out.onlyS (S := []) (Q' := fun b => V.heap.size < b ∧ b < (w7.drewN nq).heap.size) ((Only.refl [] w7).drewN nq) (fun b hb => ⟨by simp, hb.2⟩) (fun b hb => hb))
            clear HPS7 HN7 HZ7 HT7 HO7 HS7 HRW7 HRV7
            generalize w7.drewN nq = w8 at HPS8 HN8 HZ8 HT8 HO8 HS8 HRW8 HRV8 ⊢
            obtain ⟨q0, q1, q2⟩ := HPS8.out.cells
            rw [← HN.out] at q0
            go_wp2_with fail
            refine region_begin (T := [w.heap.size]) (by kernel_rfl) ?_
            have HZD := Lib.hid HZ8.out.drew
            have HTD := Lib.hid HT8.out.drew
            have HOD := Lib.hid HO8.out.drew
            clear q0 q1 q2
            generalize w8.drew = D at HZD HTD HOD ⊢
            have k1 : ∀ X : Later [w.heap.size] D, X.w.cell? ⟨w.heap.size + 1, 1, none⟩ = some (.int .i64 t.a) := fun X => (HTD.out.only X.h (by simp)).cell 1
            refine region_seg [false, true, true] 4 (by kernel_rfl) (by kernel_rfl) (by kernel_rfl) rfl (fun _ _ d _ _ h => by cases d <;> exact h) ?_
            repeat (first | with_reducible refine wpMask_pass ?_ | (refine wpMask_want (by rfl) (fun K hK => ?_); go_big_quiet_op; refine hK _ ?_; clear hK K))
            with_reducible refine wpMask_nil ?_
            clear k1
            refine region_make 0 (v := .agg #[.int .i64 0, .int .i64 0, .string ByteArray.empty, .string ByteArray.empty, .bool false, .bool false, .slice none 0 0, .slice none 0 0]) (w1 := D) (by kernel_rfl) rfl (by rfl) (by go_simp; rfl) (Only.refl _ _) ?_
            simp only [List.getElem_toArray, List.getElem_cons_zero, List.getElem_cons_succ, Act.put, List.setIfInBounds_toArray, List.set_cons_zero, List.set_cons_succ]
            obtain ⟨y0, y1, y2, y3, y4, y5, y6, y7⟩ := cells8 HZD.out
            have r0 := HZD.out.free 0
            have r1 := HZD.out.free 1
            have r2 := HZD.out.free 2
            have r3 := HZD.out.free 3
            have r4 := HZD.out.free 4
            have r5 := HZD.out.free 5
            have r6 := HZD.out.free 6
            have r7 := HZD.out.free 7
            refine region_store (w1 := st8 D w.heap.size (.int .i64 0) (.int .i64 0) (.string ByteArray.empty) (.string ByteArray.empty) (.bool false) (.bool false) (.slice none 0 0) (.slice none 0 0)) 3 (by kernel_rfl) rfl (by rfl) (by go_simp) (only8 _ _ _ _ _ _ _ _ _ _) ?_
            simp only [List.getElem_toArray, List.getElem_cons_zero, List.getElem_cons_succ, Act.put, List.setIfInBounds_toArray, List.set_cons_zero, List.set_cons_succ]
            clear y0 y1 y2 y3 y4 y5 y6 y7 r0 r1 r2 r3 r4 r5 r6 r7
            refine region_seg [false, false, false, false, true, true] 0 (by kernel_rfl) (by kernel_rfl) (by kernel_rfl) rfl (fun _ _ d _ _ h => by cases d <;> exact h) ?_
            repeat (first | with_reducible refine wpMask_pass ?_ | (refine wpMask_want (by rfl) (fun K hK => ?_); go_big_quiet_op; refine hK _ ?_; clear hK K))
            with_reducible refine wpMask_nil ?_
            refine region_end (by kernel_rfl) ?_
            go_wp2_with fail
            rw [show ND t (ts.drop (i + 1)) d c = .error (t.a, 7) by unfold ND; rw [if_neg HND.out, if_neg (by omega), if_neg (by rw [HKB.out]; decide), HRES.out]; dsimp only; rw [if_pos hu, HRES2.out]]
            exact node_err rfl rfl rfl HZD.out HOD.out
          | cons v r4 =>
            have hvt : ts[i2]? = some v := by
              have := congrArg (fun l : List Tok => l[0]?) HDR3.out
              simpa [List.getElem?_drop] using this
            have hin2 : i2 < n := by rw [HN.out]; exact (List.getElem?_eq_some_iff.1 hvt).1
            have hinI2 : (i2 : Int) < (n : Int) := by omega
            have HDR4 : Hid (ts.drop (i2 + 1) = r4) := Lib.hid (by
              have h := HDR3.out
              rw [drop_at hvt] at h
              injection h)
            clear hvt
            go_quiet (fail)
            have HPS8 := Lib.hid (HPS7.out.drewN nq)
            have HN8 := Lib.hid (HN7.out.drewN nq)
            have HZ8 := Lib.hid (HZ7.out.drewN nq)
            have HT8 := Lib.hid (HT7.out.drewN nq)
            have HO8 := Lib.hid (HO7.out.drewN nq)
            have HS8 : Hid (V.heap.size + 1 ≤ (w7.drewN nq).heap.size) := HS7
            have HRW8 := Lib.hid (HRW7.out.onlyS (S := []) (Q' := fun b => V.heap.size < b ∧ b < (w7.drewN nq).heap.size) ((Only.refl [] w7).drewN nq) (fun b hb => ⟨by simp, hb.2⟩) (fun b hb => hb))
            have HRV8 := Lib.hid (HRV7.out.onlyS (S := []) (Q' := fun b => V.heap.size < b ∧ b < (w7.drewN nq).heap.size) ((Only.refl [] w7).drewN nq) (fun b hb => ⟨by simp, hb.2⟩) (fun b hb => hb))
            clear HPS7 HN7 HZ7 HT7 HO7 HS7 HRW7 HRV7
            generalize w7.drewN nq = w8 at HPS8 HN8 HZ8 HT8 HO8 HS8 HRW8 HRV8 ⊢
            obtain ⟨q0, q1, q2⟩ := HPS8.out.cells
            rw [← HN.out] at q0
            obtain ⟨z0, z1, z2, z3, z4, z5, z6, z7⟩ := cells8 HZ8.out
            have r0 := HZ8.out.free 0
            have r1 := HZ8.out.free 1
            have r2 := HZ8.out.free 2
            have r3 := HZ8.out.free 3
            have r4 := HZ8.out.free 4
            have r5 := HZ8.out.free 5
            have r6 := HZ8.out.free 6
            have r7 := HZ8.out.free 7
            obtain ⟨x0, x1, x2, x3, x4, x5, x6, x7⟩ := cells8 HN8.out
            have q5 := HPS8.out.frees.1
            go_wp2_with fail
            have hPX : Ps (w8.setCell ⟨g, 1, none⟩ (.int .i64 ((i2 : Int) + 1))) g (some ⟨g1, o1, none⟩) cL ts (i2 + 1) c2 := HPS8.out.set_ (i2 + 1)
            have hZX := HZ8.out.far (p := ⟨g, 1, none⟩) hg2 (.int .i64 ((i2 : Int) + 1))
            have hOX : Only [g] w (w8.setCell ⟨g, 1, none⟩ (.int .i64 ((i2 : Int) + 1))) := HO8.out.setCell (.inl (by simp)) _
            have hXRW : Row (w8.setCell ⟨g, 1, none⟩ (.int .i64 ((i2 : Int) + 1))) (fun b => w.heap.size < b ∧ b < (w8.setCell ⟨g, 1, none⟩ (.int .i64 ((i2 : Int) + 1))).heap.size) _ _ _ := HRW8.out.onlyS (S := [g]) ((Only.refl [g] w8).setCell (.inl (by simp)) _) (fun b hb => ⟨by have := hb.1; have := HVS.out; simp; omega, hb.2⟩) (fun b hb => ⟨by have := hb.1; have := HVS.out; omega, by have := hb.2; simpa [World.setCell] using this⟩)
            have hXRV : Row (w8.setCell ⟨g, 1, none⟩ (.int .i64 ((i2 : Int) + 1))) (fun b => w.heap.size < b ∧ b < (w8.setCell ⟨g, 1, none⟩ (.int .i64 ((i2 : Int) + 1))).heap.size) _ _ _ := HRV8.out.onlyS (S := [g]) ((Only.refl [g] w8).setCell (.inl (by simp)) _) (fun b hb => ⟨by have := hb.1; have := HVS.out; simp; omega, hb.2⟩) (fun b hb => ⟨by have := hb.1; have := HVS.out; omega, by have := hb.2; simpa [World.setCell] using this⟩)
            rw [show ND t (ts.drop (i + 1)) d c = .ok (nd t true b b2, ts.drop (i2 + 1), c2) by unfold ND; rw [if_neg HND.out, if_neg (by omega), if_neg (by rw [HKB.out]; decide), HRES.out]; dsimp only; rw [if_pos hu, HRES2.out]; dsimp only; rw [HDR4.out]]
            exact node_ok (y := .mk t.k t.a (ofL t.s) (ofL t.p) t.h true A cA mm B cB mv) (x := nd t true b b2) rfl rfl rfl hZX hPX (by rw [← HN.out]; omega) hOX hgl HRT.out (by simp only [NT.er, nd]; rw [HER.out, HER2.out]) (.mk _ (by constructor <;> (simp only [NT.k]; omega)) (by constructor <;> (simp only [NT.a]; omega)) (by simp only [NT.s]; exact hsz1) (by simp only [NT.p]; exact hsz2) hXRW.1 hXRV.1 hXRW.2 hXRV.2)
      · have hu7 : ((u.k : Int) == 7) = false := by rw [beq_eq_false_iff_ne]; omega
        go_quiet (fail)
        have HPS3 := Lib.hid (HPS2.out.drewN nq)
        have HN3 := Lib.hid (HN2.out.drewN nq)
        have HZ3 := Lib.hid (HZ2.out.drewN nq)
        have HT3 := Lib.hid (HT2.out.drewN nq)
        have HO3 := Lib.hid (HO2.out.drewN nq)
        have HS3 : Hid (V.heap.size + 1 ≤ (w2.drewN nq).heap.size) := HS2
        have HRW3 := Lib.hid (HRW2.out.onlyS (S := []) (Q' := fun b => V.heap.size < b ∧ b < (w2.drewN nq).heap.size) ((Only.refl [] w2).drewN nq) (fun b hb => ⟨by simp, hb.2⟩) (fun b hb => hb))
        clear HPS2 HN2 HZ2 HT2 HO2 HS2 HRW2
        generalize w2.drewN nq = w3 at HPS3 HN3 HZ3 HT3 HO3 HS3 HRW3 ⊢
        obtain ⟨q0, q1, q2⟩ := HPS3.out.cells
        rw [← HN.out] at q0
        go_wp2_with fail
        go_quiet (fail)
        have HPS4 := Lib.hid (HPS3.out.drewN nq)
        have HN4 := Lib.hid (HN3.out.drewN nq)
        have HZ4 := Lib.hid (HZ3.out.drewN nq)
        have HT4 := Lib.hid (HT3.out.drewN nq)
        have HO4 := Lib.hid (HO3.out.drewN nq)
        have HS4 : Hid (V.heap.size + 1 ≤ (w3.drewN nq).heap.size) := HS3
        have HRW4 := Lib.hid (HRW3.out.onlyS (S := []) (Q' := fun b => V.heap.size < b ∧ b < (w3.drewN nq).heap.size) ((Only.refl [] w3).drewN nq) (fun b hb => ⟨by simp, hb.2⟩) (fun b hb => hb))
        clear HPS3 HN3 HZ3 HT3 HO3 HS3 HRW3
        generalize w3.drewN nq = w4 at HPS4 HN4 HZ4 HT4 HO4 HS4 HRW4 ⊢
        obtain ⟨q0, q1, q2⟩ := HPS4.out.cells
        rw [← HN.out] at q0
        obtain ⟨z0, z1, z2, z3, z4, z5, z6, z7⟩ := cells8 HZ4.out
        have r0 := HZ4.out.free 0
        have r1 := HZ4.out.free 1
        have r2 := HZ4.out.free 2
        have r3 := HZ4.out.free 3
        have r4 := HZ4.out.free 4
        have r5 := HZ4.out.free 5
        have r6 := HZ4.out.free 6
        have r7 := HZ4.out.free 7
        obtain ⟨x0, x1, x2, x3, x4, x5, x6, x7⟩ := cells8 HN4.out
        have q5 := HPS4.out.frees.1
        go_wp2_with fail
        have hPX : Ps (w4.setCell ⟨g, 1, none⟩ (.int .i64 ((i1 : Int) + 1))) g (some ⟨g1, o1, none⟩) cL ts (i1 + 1) c1 := HPS4.out.set_ (i1 + 1)
        have hZX := HZ4.out.far (p := ⟨g, 1, none⟩) hg2 (.int .i64 ((i1 : Int) + 1))
        have hOX : Only [g] w (w4.setCell ⟨g, 1, none⟩ (.int .i64 ((i1 : Int) + 1))) := HO4.out.setCell (.inl (by simp)) _
        have hXRW : Row (w4.setCell ⟨g, 1, none⟩ (.int .i64 ((i1 : Int) + 1))) (fun b => w.heap.size < b ∧ b < (w4.setCell ⟨g, 1, none⟩ (.int .i64 ((i1 : Int) + 1))).heap.size) _ _ _ := HRW4.out.onlyS (S := [g]) ((Only.refl [g] w4).setCell (.inl (by simp)) _) (fun b hb => ⟨by have := hb.1; have := HVS.out; simp; omega, hb.2⟩) (fun b hb => ⟨by have := hb.1; have := HVS.out; omega, by have := hb.2; simpa [World.setCell] using this⟩)
        rw [show ND t (ts.drop (i + 1)) d c = .ok (nd t false b [], ts.drop (i1 + 1), c1) by unfold ND; rw [if_neg HND.out, if_neg (by omega), if_neg (by rw [HKB.out]; decide), HRES.out]; dsimp only; rw [if_neg hu, HDR2.out]]
        exact node_ok (y := .mk t.k t.a (ofL t.s) (ofL t.p) t.h false A cA mm none 0 []) (x := nd t false b []) rfl rfl rfl hZX hPX (by rw [← HN.out]; omega) hOX hgl HRT.out (by simp only [NT.er, nd, NT.ers]; rw [HER.out]) (.mk _ (by constructor <;> (simp only [NT.k]; omega)) (by constructor <;> (simp only [NT.a]; omega)) (by simp only [NT.s]; exact hsz1) (by simp only [NT.p]; exact hsz2) hXRW.1 (Row.nil _ _).1 hXRW.2 (fun x hx => by cases hx))
end Go.Proofs.YtpcapmdfjmpdiaaGreatDoor

namespace Go.Proofs.YtpcapmdfjmpdiaaGreatDoor
open Go.RowKit Go.BigFrame NT
set_option linter.unusedVariables false
set_option linter.unusedSimpArgs false

set_option maxRecDepth 100000 in
set_option maxHeartbeats 3200000 in
theorem node_block_six (g : Nat) (L : Option Addr) (cL : Nat) (ts : List Tok) (hG : TsOk ts) (i d c : Nat) (t : Tok) (w : World) (hP : Ps w g L cL ts i c) (ht : ts[i]? = some t) (hd : d ≤ 32) (hk : t.k = 6) (hnest : ¬ (t.k = 6 ∧ 0 < d ∨ blk t.k = true ∧ 32 ≤ d)) (hc : c < 4096) (hb : blk t.k = true) (m : Nat) (IH : ListM g L cL ts m) (hm : ts.length - (i + 1) ≤ m) :
    Calls Tryz.prog 60 #[.pointer (some ⟨g, 0, none⟩), .int .i64 d] w (NodeP g L cL ts w (ND t (ts.drop (i + 1)) d c)) := by
  obtain rfl : d = 0 := by
    by_cases h : d = 0
    · exact h
    · exact absurd (.inl ⟨hk, by omega⟩) hnest
  have HP := Lib.hid hP
  have HT := Lib.hid ht
  have HBL := Lib.hid block_c
  have hi := (List.getElem?_eq_some_iff.1 ht).1
  have hn := hG.1
  have htk := hG.2 t (List.mem_of_getElem? ht)
  obtain ⟨g1, o1, hL, hga, ha⟩ : ∃ g1 o1, L = some ⟨g1, o1, none⟩ ∧ g1 < w.heap.size ∧ ∀ W, Bel w W → W.cell? ⟨g1, o1 + i * 5, none⟩ = some (.int .i64 6) ∧ W.cell? ⟨g1, o1 + i * 5 + 1, none⟩ = some (.int .i64 t.a) ∧ W.cell? ⟨g1, o1 + i * 5 + 2, none⟩ = some (.string (ofL t.s)) ∧ W.cell? ⟨g1, o1 + i * 5 + 3, none⟩ = some (.string (ofL t.p)) ∧ W.cell? ⟨g1, o1 + i * 5 + 4, none⟩ = some (.bool t.h) := by
    obtain ⟨g1, o1, e, h⟩ := tok_at hP.row ht
    exact ⟨g1, o1, e, hP.row.lt g1 (by rw [e]; simp [rowT]), fun W hb => by have h := h W hb; rw [hk] at h; exact h⟩
  subst hL
  have HTA := Lib.hid ha
  have hgl := hP.blk.lt
  have hsz1 : (ofL t.s).size ≤ reachBytes := by have := htk.2.2.1; show t.s.length ≤ reachBytes; unfold reachBytes; omega
  have hsz2 : (ofL t.p).size ≤ reachBytes := by have := htk.2.2.2; show t.p.length ≤ reachBytes; unfold reachBytes; omega
  have hg1 : ¬ w.heap.size + 1 = g := by omega
  have hg2 : ¬ w.heap.size = g := by omega
  have hg3 : ¬ g = w.heap.size + 1 := by omega
  have hg4 : ¬ g = w.heap.size := by omega
  have HPB := Lib.hid (fun (W : World) (hb : Bel w W) => (HP.out.bel hb).cells)
  obtain ⟨n, hN⟩ : ∃ n, n = ts.length := ⟨_, rfl⟩
  rw [← hN] at hi hn HPB
  have HN := Lib.hid hN
  clear hP ht ha hN hG
  go_enter Tryz.func60, Tryz.ntmps60
  go_wp2_with fail
  refine region_begin (T := [w.heap.size + 1]) (by kernel_rfl) ?_
  have HZ := Lib.hid (Blk.new w 69 [.int .i64 0, .int .i64 0, .string ⟨#[]⟩, .string ⟨#[]⟩, .bool false, .bool false, .slice none 0 0, .slice none 0 0]).drew
  have HBW : Hid (Bel w (w.alloc (.cells #[.int .i64 0, .int .i64 0, .string ⟨#[]⟩, .string ⟨#[]⟩, .bool false, .bool false, .slice none 0 0, .slice none 0 0] 69)).drew) := Lib.hid ((Bel.alloc _ _).trans (Bel.drew _))
  have HWS : Hid (((w.alloc (.cells #[.int .i64 0, .int .i64 0, .string ⟨#[]⟩, .string ⟨#[]⟩, .bool false, .bool false, .slice none 0 0, .slice none 0 0] 69)).drew).heap.size = w.heap.size + 1) := Lib.hid (by simp [World.drew])
  generalize (w.alloc (.cells #[.int .i64 0, .int .i64 0, .string ⟨#[]⟩, .string ⟨#[]⟩, .bool false, .bool false, .slice none 0 0, .slice none 0 0] 69)).drew = W at HZ HBW HWS ⊢
  have HBL0 := Lib.hid (fun (X : Later [w.heap.size + 1] W) => bel_on1 HBW.out X.h (Nat.le_succ _))
  have p0 : ∀ X : Later [w.heap.size + 1] W, X.w.cell? ⟨g, 0, none⟩ = some (.slice (some ⟨g1, o1, none⟩) n cL) := fun X => (HPB.out X.w (HBL0.out X)).1
  have p1 : ∀ X : Later [w.heap.size + 1] W, X.w.cell? ⟨g, 1, none⟩ = some (.int .i64 i) := fun X => (HPB.out X.w (HBL0.out X)).2.1
  have t0 : ∀ X : Later [w.heap.size + 1] W, X.w.cell? ⟨g1, o1 + i * 5, none⟩ = some (.int .i64 6) := fun X => (HTA.out X.w (HBL0.out X)).1
  have t1 : ∀ X : Later [w.heap.size + 1] W, X.w.cell? ⟨g1, o1 + i * 5 + 1, none⟩ = some (.int .i64 t.a) := fun X => (HTA.out X.w (HBL0.out X)).2.1
  have t2 : ∀ X : Later [w.heap.size + 1] W, X.w.cell? ⟨g1, o1 + i * 5 + 2, none⟩ = some (.string (ofL t.s)) := fun X => (HTA.out X.w (HBL0.out X)).2.2.1
  have t3 : ∀ X : Later [w.heap.size + 1] W, X.w.cell? ⟨g1, o1 + i * 5 + 3, none⟩ = some (.string (ofL t.p)) := fun X => (HTA.out X.w (HBL0.out X)).2.2.2.1
  have t4 : ∀ X : Later [w.heap.size + 1] W, X.w.cell? ⟨g1, o1 + i * 5 + 4, none⟩ = some (.bool t.h) := fun X => (HTA.out X.w (HBL0.out X)).2.2.2.2
  refine region_seg [true, true, true, true, true, true, true, true, true, true] 2 (by kernel_rfl) (by kernel_rfl) (by kernel_rfl) rfl (fun _ _ d _ _ h => by cases d <;> exact h) ?_
  repeat (first | with_reducible refine wpMask_pass ?_ | (refine wpMask_want (by rfl) (fun K hK => ?_); go_big_quiet_op; refine hK _ ?_; clear hK K))
  with_reducible refine wpMask_nil ?_
  clear p0 p1 t0 t1 t2 t3 t4
  refine region_make 10 (v := .pointer (some ⟨W.heap.size, 0, none⟩)) (w1 := W.alloc (.cells #[.int .i64 0, .int .i64 0, .string ⟨#[]⟩, .string ⟨#[]⟩, .bool false] 138)) (by kernel_rfl) rfl (by rfl) (by go_simp) ((Only.refl _ _).alloc _) ?_
  simp only [List.getElem_toArray, List.getElem_cons_zero, List.getElem_cons_succ, Act.put, List.setIfInBounds_toArray, List.set_cons_zero, List.set_cons_succ]
  have hk0 := Blk.new W 138 [.int .i64 0, .int .i64 0, .string ⟨#[]⟩, .string ⟨#[]⟩, .bool false]
  have hk1 := set5 hk0 (.int .i64 6) (.int .i64 t.a) (.string (ofL t.s)) (.string (ofL t.p)) (.bool t.h)
  have ho1 := only5 (W.alloc (.cells #[.int .i64 0, .int .i64 0, .string ⟨#[]⟩, .string ⟨#[]⟩, .bool false] 138)) W.heap.size (.int .i64 6) (.int .i64 t.a) (.string (ofL t.s)) (.string (ofL t.p)) (.bool t.h)
  rw [HWS.out] at hk1 ho1
  have ho2 : Only [w.heap.size + 1] W _ := ((Only.refl [w.heap.size + 1] W).alloc _).trans ho1
  obtain ⟨z0, z1, z2, z3, z4⟩ := cells5 hk0
  obtain ⟨f0, f1, f2, f3, f4⟩ := frees5 hk0
  rw [HWS.out] at z0 z1 z2 z3 z4 f0 f1 f2 f3 f4 ⊢
  refine region_store (w1 := (((((W.alloc (.cells #[.int .i64 0, .int .i64 0, .string ⟨#[]⟩, .string ⟨#[]⟩, .bool false] 138)).setCell ⟨w.heap.size + 1, 0, none⟩ (.int .i64 6)).setCell ⟨w.heap.size + 1, 1, none⟩ (.int .i64 t.a)).setCell ⟨w.heap.size + 1, 2, none⟩ (.string (ofL t.s))).setCell ⟨w.heap.size + 1, 3, none⟩ (.string (ofL t.p))).setCell ⟨w.heap.size + 1, 4, none⟩ (.bool t.h)) 11 (by kernel_rfl) rfl (by rfl) (by go_simp) ho1 ?_
  have HBT := Lib.hid hk1
  have HBV := Lib.hid (bel_on1 HBW.out ho2 (Nat.le_succ _))
  have HZV := Lib.hid (HZ.out.only ho2 (by simp))
  have HVS : Hid (w.heap.size + 2 ≤ _) := Lib.hid hk1.lt
  clear hk0 hk1 ho1 ho2 z0 z1 z2 z3 z4 f0 f1 f2 f3 f4
  generalize (((((W.alloc (.cells #[.int .i64 0, .int .i64 0, .string ⟨#[]⟩, .string ⟨#[]⟩, .bool false] 138)).setCell ⟨w.heap.size + 1, 0, none⟩ (.int .i64 6)).setCell ⟨w.heap.size + 1, 1, none⟩ (.int .i64 t.a)).setCell ⟨w.heap.size + 1, 2, none⟩ (.string (ofL t.s))).setCell ⟨w.heap.size + 1, 3, none⟩ (.string (ofL t.p))).setCell ⟨w.heap.size + 1, 4, none⟩ (.bool t.h) = V at HBT HBV HZV HVS ⊢
  simp only [List.getElem_toArray, List.getElem_cons_zero, List.getElem_cons_succ, Act.put, List.setIfInBounds_toArray, List.set_cons_zero, List.set_cons_succ]
  refine region_end (by kernel_rfl) ?_
  obtain ⟨k0, k1, k2, k3, k4⟩ := cells5 HBT.out
  obtain ⟨q0, q1, q2⟩ := HPB.out V HBV.out
  have HPV := Lib.hid (HP.out.bel HBV.out)
  obtain ⟨q4, q5⟩ := HPV.out.frees
  obtain ⟨y0, y1, y2, y3, y4, y5, y6, y7⟩ := cells8 HZV.out
  have HND := Lib.hid hnest
  have HK6 := Lib.hid hk
  have HE6 : Hid ((t.k : Int) = 6) := Lib.hid (by omega)
  have hd9 : 0 + 1 ≤ 32 := by omega
  have HBF : Hid (blkI 6 = true) := Lib.hid rfl
  have hc1 : ¬ (4096 : Int) ≤ (c : Int) := by omega
  have HKB := Lib.hid hb
  have hop : opI t.k = 6 := by rw [hk]; rfl
  have HIH : Hid (∀ (i' c' : Nat) (ie : Bool) (W : World), Ps W g (some ⟨g1, o1, none⟩) cL ts i' c' → i' ≤ n → i + 1 ≤ i' → c' ≤ 4096 → Calls Tryz.prog 33 #[.pointer (some ⟨g, 0, none⟩), .int .i64 6, .bool ie, .int .i64 1] W (ListP g (some ⟨g1, o1, none⟩) cL ts W (P (ts.drop i') t.k ie (0 + 1) c'))) := Lib.hid (fun i' c' ie W h1 h2 h3 h4 => by
    have := IH i' t.k ie (0 + 1) c' W h1 (by rw [← HN.out]; exact h2) (by omega) hd9 h4 (by have := htk.1; exact this)
    rw [hop] at this
    exact this)
  have HRT : Hid (∀ k, k ∈ rowT (some (⟨g1, o1, none⟩ : Addr)) → k < w.heap.size) := Lib.hid (fun k hk => by rw [rowT_some] at hk; simp at hk; omega)
  clear hnest hb IH hk hop
  have HV3 := Lib.hid (fun ob => ((HBT.out.far (p := ⟨g, 2, none⟩) hg1 (.int .i64 ((c : Int) + 1))).far (p := ⟨g, 1, none⟩) hg1 (.int .i64 ((i : Int) + 1))).alloc ob)
  have HZ3 := Lib.hid (fun ob => ((HZV.out.far (p := ⟨g, 2, none⟩) hg2 (.int .i64 ((c : Int) + 1))).far (p := ⟨g, 1, none⟩) hg2 (.int .i64 ((i : Int) + 1))).alloc ob)
  have hP2 : Ps (V.setCell ⟨g, 2, none⟩ (.int .i64 ((c : Int) + 1))) g (some ⟨g1, o1, none⟩) cL ts i (c + 1) := HPV.out.setc (c + 1)
  have hP3 : Ps ((V.setCell ⟨g, 2, none⟩ (.int .i64 ((c : Int) + 1))).setCell ⟨g, 1, none⟩ (.int .i64 ((i : Int) + 1))) g (some ⟨g1, o1, none⟩) cL ts (i + 1) (c + 1) := hP2.set_ (i + 1)
  have HP4 := Lib.hid (fun ob => hP3.bel (Bel.alloc _ ob))
  have hO3 : Only [g] w ((V.setCell ⟨g, 2, none⟩ (.int .i64 ((c : Int) + 1))).setCell ⟨g, 1, none⟩ (.int .i64 ((i : Int) + 1))) := (((bel_only HBV.out).more (by simp)).setCell (.inl (by simp)) _).setCell (.inl (by simp)) _
  have HO4 := Lib.hid (fun ob => hO3.alloc ob)
  have HN4 := Lib.hid (Blk.new ((V.setCell ⟨g, 2, none⟩ (.int .i64 ((c : Int) + 1))).setCell ⟨g, 1, none⟩ (.int .i64 ((i : Int) + 1))) 69 [.int .i64 6, .int .i64 t.a, .string (ofL t.s), .string (ofL t.p), .bool t.h, .bool false, .slice none 0 0, .slice none 0 0])
  have m0 := fun ob => (HV3.out ob).cell 0
  simp only [List.getElem?_cons_zero, List.getElem?_cons_succ] at m0
  clear hP2 hP3 hO3
  have HSZ : Hid (((V.setCell ⟨g, 2, none⟩ (.int .i64 ((c : Int) + 1))).setCell ⟨g, 1, none⟩ (.int .i64 ((i : Int) + 1))).heap.size = V.heap.size) := Lib.hid (by simp [World.setCell])
  rw [HSZ.out] at HN4
  have hnb : ¬ V.heap.size = g := by have := HVS.out; omega
  have hnb2 : ¬ g = V.heap.size := by omega
  have hnb3 : ¬ V.heap.size = w.heap.size := by have := HVS.out; omega
  have hnb4 : ¬ V.heap.size = w.heap.size + 1 := by have := HVS.out; omega
  go_wp2_with (go_at_call 89; ((with_reducible refine (HBL.out _ _).mono ?_); rintro e w1 ⟨rfl, hw⟩; obtain rfl := hw.symm; rw [HBF.out]))
  refine (HIH.out (i + 1) (c + 1) false _ (HP4.out _) (by omega) (Nat.le_refl _) (by omega)).mono ?_
  rintro e w1 ⟨hO, hp⟩
  have HO1 := Lib.hid ((HO4.out _).trans hO)
  have HZ1 := Lib.hid ((HZ3.out _).only hO (by simp; exact hg2))
  have HT1 := Lib.hid ((HV3.out _).only hO (by simp; exact hg1))
  have HN1 := Lib.hid (HN4.out.only hO (by simp; exact hnb))
  have HS1 : Hid (V.heap.size + 1 ≤ w1.heap.size) := Lib.hid (by have := hO.size; rw [show (((V.setCell ⟨g, 2, none⟩ (.int .i64 ((c : Int) + 1))).setCell ⟨g, 1, none⟩ (.int .i64 ((i : Int) + 1))).alloc (.cells #[.int .i64 6, .int .i64 t.a, .string (ofL t.s), .string (ofL t.p), .bool t.h, .bool false, .slice none 0 0, .slice none 0 0] 69)).heap.size = V.heap.size + 1 by simp [World.setCell]] at this; exact this)
  clear hO m0
  cases hres : P (ts.drop (i + 1)) t.k false (0 + 1) (c + 1) with
  | error ak =>
    obtain ⟨a, k⟩ := ak
    rw [hres] at hp
    dsimp only at hp
    subst hp
    have hk0 : ((k : Int) != 0) = true := bne_iff_ne.2 (by have := P_code hres; omega)
    have hk1 : ¬ (k : Int) = 0 := by have := P_code hres; omega
    have HRES := Lib.hid hres
    obtain ⟨z0, z1, z2, z3, z4, z5, z6, z7⟩ := cells8 HZ1.out
    have r0 := HZ1.out.free 0
    have r1 := HZ1.out.free 1
    have r2 := HZ1.out.free 2
    have r3 := HZ1.out.free 3
    have r4 := HZ1.out.free 4
    have r5 := HZ1.out.free 5
    have r6 := HZ1.out.free 6
    have r7 := HZ1.out.free 7
    clear hres
    go_wp2_with fail
    rw [show ND t (ts.drop (i + 1)) 0 c = .error (a, k) by unfold ND; rw [if_neg HND.out, if_neg (by omega), if_neg (by rw [HKB.out]; decide), HRES.out]]
    exact node_err rfl rfl rfl HZ1.out HO1.out
  | ok x =>
    obtain ⟨b, rr, c1⟩ := x
    rw [hres] at hp
    obtain ⟨A, cA, mm, hers, hrow, rfl, i1, hPs, hi1, hdr⟩ := hp
    have hpg := P_good hres (by omega) hd9
    have HRES := Lib.hid hres
    have HER := Lib.hid hers
    have HRW := Lib.hid hrow
    have HPS := Lib.hid hPs
    have hc14 := hpg.2.1
    rw [← HN.out] at hi1
    have HDR := Lib.hid hdr
    obtain ⟨x0, x1, x2, x3, x4, x5, x6, x7⟩ := cells8 HN1.out
    have f6 := HN1.out.free 6
    clear hres hers hrow hPs hpg hdr
    go_wp2_with fail
    have HRL := Lib.hid (fun k hk => show k ≠ V.heap.size by have := HRT.out k hk; have := HVS.out; omega)
    have HPS2 := Lib.hid (st_other (j := 6) HPS.out hnb HRL.out (.slice A mm.length cA))
    have HN2 := Lib.hid (HN1.out.set_ 6 (.slice A mm.length cA))
    have HZ2 := Lib.hid (HZ1.out.far (p := ⟨V.heap.size, 6, none⟩) (fun h => hnb3 h.symm) (.slice A mm.length cA))
    have HT2 := Lib.hid (HT1.out.far (p := ⟨V.heap.size, 6, none⟩) (fun h => hnb4 h.symm) (.slice A mm.length cA))
    have HO2 := Lib.hid (HO1.out.setCell (p := ⟨V.heap.size, 6, none⟩) (.inr (by have := HVS.out; simp; omega)) (.slice A mm.length cA))
    have HRW2 : Hid (Row (w1.setCell ⟨V.heap.size, 6, none⟩ (.slice A mm.length cA)) (fun b => V.heap.size < b ∧ b < (w1.setCell ⟨V.heap.size, 6, none⟩ (.slice A mm.length cA)).heap.size) A cA mm) := Lib.hid (HRW.out.onlyS (S := [V.heap.size]) ((Only.refl _ _).setCell (.inl (by simp)) _) (fun b hb => ⟨by have := hb.1; simp [World.setCell] at this; simp; omega, hb.2⟩) (fun b hb => ⟨by have := hb.1; simp [World.setCell] at this; omega, by have := hb.2; simpa [World.setCell] using this⟩))
    have HS2 : Hid (V.heap.size + 1 ≤ (w1.setCell ⟨V.heap.size, 6, none⟩ (.slice A mm.length cA)).heap.size) := Lib.hid (by have := HS1.out; simpa [World.setCell] using this)
    simp only [List.set_cons_zero, List.set_cons_succ] at HN2
    clear x0 x1 x2 x3 x4 x5 x6 x7 f6 k0 k1 k2 k3 k4 q0 q1 q2 q4 q5 y0 y1 y2 y3 y4 y5 y6 y7
    clear HPS HN1 HZ1 HT1 HO1 HRW HS1
    generalize w1.setCell ⟨V.heap.size, 6, none⟩ (.slice A mm.length cA) = w2 at HPS2 HN2 HZ2 HT2 HO2 HRW2 HS2 ⊢
    obtain ⟨q0, q1, q2⟩ := HPS2.out.cells
    rw [← HN.out] at q0
    cases rr with
    | nil =>
      have hin : i1 = n := by
        have := congrArg List.length HDR.out
        rw [List.length_drop, ← HN.out] at this
        simp at this; omega
      subst hin
      go_quiet (fail)
      have HPS3 := Lib.hid (HPS2.out.drewN nq)
      have HN3 := Lib.hid (HN2.out.drewN nq)
      have HZ3 := Lib.hid (HZ2.out.drewN nq)
      have HT3 := Lib.hid (HT2.out.drewN nq)
      have HO3 := Lib.hid (HO2.out.drewN nq)
      have HS3 : Hid (V.heap.size + 1 ≤ (w2.drewN nq).heap.size) := HS2
      have HRW3 := Lib.hid (HRW2.out.onlyS (S := []) (Q' := fun b => V.heap.size < b ∧ b < (w2.drewN nq).heap.size) ((Only.refl [] w2).drewN nq) (fun b hb => ⟨by simp, hb.2⟩) (fun b hb => hb))
      clear HPS2 HN2 HZ2 HT2 HO2 HS2 HRW2
      generalize w2.drewN nq = w3 at HPS3 HN3 HZ3 HT3 HO3 HS3 HRW3 ⊢
      obtain ⟨q0, q1, q2⟩ := HPS3.out.cells
      rw [← HN.out] at q0
      go_wp2_with fail
      go_quiet (fail)
      have HPS4 := Lib.hid (HPS3.out.drewN nq)
      have HN4 := Lib.hid (HN3.out.drewN nq)
      have HZ4 := Lib.hid (HZ3.out.drewN nq)
      have HT4 := Lib.hid (HT3.out.drewN nq)
      have HO4 := Lib.hid (HO3.out.drewN nq)
      have HS4 : Hid (V.heap.size + 1 ≤ (w3.drewN nq).heap.size) := HS3
      have HRW4 := Lib.hid (HRW3.out.onlyS (S := []) (Q' := fun b => V.heap.size < b ∧ b < (w3.drewN nq).heap.size) ((Only.refl [] w3).drewN nq) (fun b hb => ⟨by simp, hb.2⟩) (fun b hb => hb))
      clear HPS3 HN3 HZ3 HT3 HO3 HS3 HRW3
      generalize w3.drewN nq = w4 at HPS4 HN4 HZ4 HT4 HO4 HS4 HRW4 ⊢
      obtain ⟨q0, q1, q2⟩ := HPS4.out.cells
      rw [← HN.out] at q0
      go_wp2_with fail
      refine region_begin (T := [w.heap.size]) (by kernel_rfl) ?_
      have HZD := Lib.hid HZ4.out.drew
      have HTD := Lib.hid HT4.out.drew
      have HOD := Lib.hid HO4.out.drew
      clear q0 q1 q2
      generalize w4.drew = D at HZD HTD HOD ⊢
      have k1 : ∀ X : Later [w.heap.size] D, X.w.cell? ⟨w.heap.size + 1, 1, none⟩ = some (.int .i64 t.a) := fun X => (HTD.out.only X.h (by simp)).cell 1
      refine region_seg [false, true, true] 4 (by kernel_rfl) (by kernel_rfl) (by kernel_rfl) rfl (fun _ _ d _ _ h => by cases d <;> exact h) ?_
      repeat (first | with_reducible refine wpMask_pass ?_ | (refine wpMask_want (by rfl) (fun K hK => ?_); go_big_quiet_op; refine hK _ ?_; clear hK K))
      with_reducible refine wpMask_nil ?_
      clear k1
      refine region_make 0 (v := .agg #[.int .i64 0, .int .i64 0, .string ByteArray.empty, .string ByteArray.empty, .bool false, .bool false, .slice none 0 0, .slice none 0 0]) (w1 := D) (by kernel_rfl) rfl (by rfl) (by go_simp; rfl) (Only.refl _ _) ?_
      simp only [List.getElem_toArray, List.getElem_cons_zero, List.getElem_cons_succ, Act.put, List.setIfInBounds_toArray, List.set_cons_zero, List.set_cons_succ]
      obtain ⟨y0, y1, y2, y3, y4, y5, y6, y7⟩ := cells8 HZD.out
      have r0 := HZD.out.free 0
      have r1 := HZD.out.free 1
      have r2 := HZD.out.free 2
      have r3 := HZD.out.free 3
      have r4 := HZD.out.free 4
      have r5 := HZD.out.free 5
      have r6 := HZD.out.free 6
      have r7 := HZD.out.free 7
      refine region_store (w1 := st8 D w.heap.size (.int .i64 0) (.int .i64 0) (.string ByteArray.empty) (.string ByteArray.empty) (.bool false) (.bool false) (.slice none 0 0) (.slice none 0 0)) 3 (by kernel_rfl) rfl (by rfl) (by go_simp) (only8 _ _ _ _ _ _ _ _ _ _) ?_
      simp only [List.getElem_toArray, List.getElem_cons_zero, List.getElem_cons_succ, Act.put, List.setIfInBounds_toArray, List.set_cons_zero, List.set_cons_succ]
      clear y0 y1 y2 y3 y4 y5 y6 y7 r0 r1 r2 r3 r4 r5 r6 r7
      refine region_seg [false, false, false, false, true, true] 0 (by kernel_rfl) (by kernel_rfl) (by kernel_rfl) rfl (fun _ _ d _ _ h => by cases d <;> exact h) ?_
      repeat (first | with_reducible refine wpMask_pass ?_ | (refine wpMask_want (by rfl) (fun K hK => ?_); go_big_quiet_op; refine hK _ ?_; clear hK K))
      with_reducible refine wpMask_nil ?_
      refine region_end (by kernel_rfl) ?_
      go_wp2_with fail
      rw [show ND t (ts.drop (i + 1)) 0 c = .error (t.a, 7) by unfold ND; rw [if_neg HND.out, if_neg (by omega), if_neg (by rw [HKB.out]; decide), HRES.out]]
      exact node_err rfl rfl rfl HZD.out HOD.out
    | cons u r2 =>
      have hut : ts[i1]? = some u := by
        have := congrArg (fun l : List Tok => l[0]?) HDR.out
        simpa [List.getElem?_drop] using this
      have hin : i1 < n := by rw [HN.out]; exact (List.getElem?_eq_some_iff.1 hut).1
      have hinI : (i1 : Int) < (n : Int) := by omega
      obtain ⟨g9, o9, hL9, hu9⟩ := tok_at HPS2.out.row hut
      injection hL9 with hL9
      injection hL9 with e1 e2
      subst e1 e2
      obtain ⟨u0, u1, u2, u3, u4⟩ := hu9 w2 (Bel.refl _)
      have HDR2 : Hid (ts.drop (i1 + 1) = r2) := Lib.hid (by
        have h := HDR.out
        rw [drop_at hut] at h
        injection h)
      have hige : i + 1 ≤ i1 := by
        have h := P_rest HRES.out
        rw [← HDR.out, List.length_drop, List.length_drop, ← HN.out] at h
        omega
      by_cases hu : u.k = 7
      · exfalso
        rcases P_stop HRES.out with ⟨_, h, _⟩ | ⟨h, _⟩
        · have := HK6.out; omega
        · omega
      · have hu7 : ((u.k : Int) == 7) = false := by rw [beq_eq_false_iff_ne]; omega
        go_quiet (fail)
        have HPS3 := Lib.hid (HPS2.out.drewN nq)
        have HN3 := Lib.hid (HN2.out.drewN nq)
        have HZ3 := Lib.hid (HZ2.out.drewN nq)
        have HT3 := Lib.hid (HT2.out.drewN nq)
        have HO3 := Lib.hid (HO2.out.drewN nq)
        have HS3 : Hid (V.heap.size + 1 ≤ (w2.drewN nq).heap.size) := HS2
        have HRW3 := Lib.hid (HRW2.out.onlyS (S := []) (Q' := fun b => V.heap.size < b ∧ b < (w2.drewN nq).heap.size) ((Only.refl [] w2).drewN nq) (fun b hb => ⟨by simp, hb.2⟩) (fun b hb => hb))
        clear HPS2 HN2 HZ2 HT2 HO2 HS2 HRW2
        generalize w2.drewN nq = w3 at HPS3 HN3 HZ3 HT3 HO3 HS3 HRW3 ⊢
        obtain ⟨q0, q1, q2⟩ := HPS3.out.cells
        rw [← HN.out] at q0
        go_wp2_with fail
        go_quiet (fail)
        have HPS4 := Lib.hid (HPS3.out.drewN nq)
        have HN4 := Lib.hid (HN3.out.drewN nq)
        have HZ4 := Lib.hid (HZ3.out.drewN nq)
        have HT4 := Lib.hid (HT3.out.drewN nq)
        have HO4 := Lib.hid (HO3.out.drewN nq)
        have HS4 : Hid (V.heap.size + 1 ≤ (w3.drewN nq).heap.size) := HS3
        have HRW4 := Lib.hid (HRW3.out.onlyS (S := []) (Q' := fun b => V.heap.size < b ∧ b < (w3.drewN nq).heap.size) ((Only.refl [] w3).drewN nq) (fun b hb => ⟨by simp, hb.2⟩) (fun b hb => hb))
        clear HPS3 HN3 HZ3 HT3 HO3 HS3 HRW3
        generalize w3.drewN nq = w4 at HPS4 HN4 HZ4 HT4 HO4 HS4 HRW4 ⊢
        obtain ⟨q0, q1, q2⟩ := HPS4.out.cells
        rw [← HN.out] at q0
        obtain ⟨z0, z1, z2, z3, z4, z5, z6, z7⟩ := cells8 HZ4.out
        have r0 := HZ4.out.free 0
        have r1 := HZ4.out.free 1
        have r2 := HZ4.out.free 2
        have r3 := HZ4.out.free 3
        have r4 := HZ4.out.free 4
        have r5 := HZ4.out.free 5
        have r6 := HZ4.out.free 6
        have r7 := HZ4.out.free 7
        obtain ⟨x0, x1, x2, x3, x4, x5, x6, x7⟩ := cells8 HN4.out
        have q5 := HPS4.out.frees.1
        go_wp2_with fail
        have hPX : Ps (w4.setCell ⟨g, 1, none⟩ (.int .i64 ((i1 : Int) + 1))) g (some ⟨g1, o1, none⟩) cL ts (i1 + 1) c1 := HPS4.out.set_ (i1 + 1)
        have hZX := HZ4.out.far (p := ⟨g, 1, none⟩) hg2 (.int .i64 ((i1 : Int) + 1))
        have hOX : Only [g] w (w4.setCell ⟨g, 1, none⟩ (.int .i64 ((i1 : Int) + 1))) := HO4.out.setCell (.inl (by simp)) _
        have hXRW : Row (w4.setCell ⟨g, 1, none⟩ (.int .i64 ((i1 : Int) + 1))) (fun b => w.heap.size < b ∧ b < (w4.setCell ⟨g, 1, none⟩ (.int .i64 ((i1 : Int) + 1))).heap.size) _ _ _ := HRW4.out.onlyS (S := [g]) ((Only.refl [g] w4).setCell (.inl (by simp)) _) (fun b hb => ⟨by have := hb.1; have := HVS.out; simp; omega, hb.2⟩) (fun b hb => ⟨by have := hb.1; have := HVS.out; omega, by have := hb.2; simpa [World.setCell] using this⟩)
        rw [show ND t (ts.drop (i + 1)) 0 c = .ok (nd t false b [], ts.drop (i1 + 1), c1) by unfold ND; rw [if_neg HND.out, if_neg (by omega), if_neg (by rw [HKB.out]; decide), HRES.out]; dsimp only; rw [if_neg hu, HDR2.out]]
        exact node_ok (y := .mk 6 t.a (ofL t.s) (ofL t.p) t.h false A cA mm none 0 []) (x := nd t false b []) rfl rfl rfl hZX hPX (by rw [← HN.out]; omega) hOX hgl HRT.out (by simp only [NT.er, nd, NT.ers]; rw [HER.out, HE6.out]) (.mk _ (by constructor <;> (simp only [NT.k]; omega)) (by constructor <;> (simp only [NT.a]; omega)) (by simp only [NT.s]; exact hsz1) (by simp only [NT.p]; exact hsz2) hXRW.1 (Row.nil _ _).1 hXRW.2 (fun x hx => by cases hx))
end Go.Proofs.YtpcapmdfjmpdiaaGreatDoor

namespace Go.Proofs.YtpcapmdfjmpdiaaGreatDoor
open Go.RowKit Go.BigFrame NT
set_option linter.unusedVariables false
theorem node_of {g : Nat} {L : Option Addr} {cL : Nat} {ts : List Tok} (hG : TsOk ts) {n m : Nat} (IH : ListM g L cL ts m) (hnm : n ≤ m + 1) : NodeM g L cL ts n := by
  intro i d c t w hP ht hn hd hc
  have hi := (List.getElem?_eq_some_iff.1 ht).1
  by_cases hnest : t.k = 6 ∧ 0 < d ∨ blk t.k = true ∧ 32 ≤ d
  · have e : ND t (ts.drop (i + 1)) d c = .error (t.a, 13) := by unfold ND; rw [if_pos hnest]
    rw [e]
    by_cases h6 : t.k = 6
    · have h0 : 0 < d := by rcases hnest with h | h; exact h.2; omega
      exact node_define g L cL ts hG i d c t w hP ht hd h6 h0
    · have h0 : blk t.k = true ∧ 32 ≤ d := by rcases hnest with h | h; exact absurd h.1 h6; exact h
      exact node_deep g L cL ts hG i d c t w hP ht hd h6 h0.1 h0.2
  by_cases h4 : 4096 ≤ c
  · have e : ND t (ts.drop (i + 1)) d c = .error (t.a, 14) := by unfold ND; rw [if_neg hnest, if_pos h4]
    rw [e]
    exact node_many g L cL ts hG i d c t w hP ht hd hnest h4 hc
  cases hb : blk t.k with
  | false =>
    have e : ND t (ts.drop (i + 1)) d c = .ok (nd t false [] [], ts.drop (i + 1), c + 1) := by unfold ND; rw [if_neg hnest, if_neg h4, if_pos hb]
    rw [e]
    exact node_leaf g L cL ts hG i d c t w hP ht hd (by omega) hb
  | true =>
    by_cases h6 : t.k = 6
    · exact node_block_six g L cL ts hG i d c t w hP ht hd h6 hnest (by omega) hb m IH (by omega)
    · exact node_block_other g L cL ts hG i d c t w hP ht hd h6 hnest (by omega) hb m IH (by omega)
end Go.Proofs.YtpcapmdfjmpdiaaGreatDoor
