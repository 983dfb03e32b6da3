/-
  Contract: the program's Parse.
-/
import Derived.Test.YthbcjljkpnkakaaDoorRlist
import Derived.Test.YthbcjljkpnkakaaDoorPd12
import Derived.Test.YthbcjljkpnkakaaDoorPl12
import Derived.Test.YthbcjljkpnkakaaDoorPure12
import Derived.Test.YthbcjljkpnkakaaDoorCn12
namespace Go.Proofs.YthbcjljkpnkakaaDoor
open Go.RowKit Go.BigFrame NT
set_option linter.unusedVariables false
set_option linter.unusedSimpArgs false

theorem plist_all {g : Nat} (m : Nat) : ListQ g m := by
  induction m using Nat.strongRecOn with
  | _ m ih => exact plist_of (fun n hn => pnode_of (ih n hn))
/-- The three results, in variables of their own. -/
theorem doneP {f : Func} (hf : f.results = #[.cell 2 22, .cell 3 3, .cell 4 25]) {tmps : Array Value} {b1 b2 b3 : Nat} {A : Option Addr} {n c : Nat} {i j : Int} {W : World} (p2 : tmps.getD 2 undef = .pointer (some ⟨b1, 0, none⟩)) (p3 : tmps.getD 3 undef = .pointer (some ⟨b2, 0, none⟩)) (p4 : tmps.getD 4 undef = .pointer (some ⟨b3, 0, none⟩))
    (h1 : Blk W b1 22 [.slice A n c]) (h2 : Blk W b2 3 [.int .i64 i]) (h3 : Blk W b3 25 [.int .i64 j]) : (results f tmps).run Tryd.prog W = .ok (.tuple #[.slice A n c, .int .i64 i, .int .i64 j]) W := by
  have q2 : tmps[2]?.getD undef = .pointer (some ⟨b1, 0, none⟩) := by simpa using p2
  have q3 : tmps[3]?.getD undef = .pointer (some ⟨b2, 0, none⟩) := by simpa using p3
  have q4 : tmps[4]?.getD undef = .pointer (some ⟨b3, 0, none⟩) := by simpa using p4
  have c1 := h1.cell 0
  have c2 := h2.cell 0
  have c3 := h3.cell 0
  simp only [List.getElem?_cons_zero] at c1 c2 c3
  simp [results, hf, q2, q3, q4, go_sem, c1, c2, c3]
theorem parR_fin {ts : List Tok} {l : List NT} {c : Nat} (h : P ts 2 false 0 0 = .ok (l, [], c)) : parR (.ok ts) = .ok l := by
  unfold parR
  dsimp only
  rw [P_conv, h]
  rfl
theorem parR_rest {ts : List Tok} {l : List NT} {u : Tok} {r : List Tok} {c : Nat} (h : P ts 2 false 0 0 = .ok (l, u :: r, c)) : parR (.ok ts) = .error (u.a, 13) := by
  unfold parR
  dsimp only
  rw [P_conv, h]
  simp only [fin]
  by_cases hu : u.k = 7
  · rw [if_pos hu, if_neg (fun h => by cases h.1)]
  · rw [if_neg hu, if_pos (by trivial)]
theorem parR_fault {ts : List Tok} {e : Nat × Nat} (h : P ts 2 false 0 0 = .error e) : parR (.ok ts) = .error e := by
  unfold parR
  dsimp only
  rw [P_conv, h]
  rfl
/-- The three variables hold these values, all through a piece of the walk. -/
def Three (b1 b2 b3 : Nat) (v1 v2 v3 : Value) (W w' : World) : Prop := Only [b1, b2, b3] W w' ∧ Blk w' b1 22 [v1] ∧ Blk w' b2 3 [v2] ∧ Blk w' b3 25 [v3]
theorem Three.set1 {b1 b2 b3 : Nat} {v1 v2 v3 : Value} {W w' : World} (h : Three b1 b2 b3 v1 v2 v3 W w') (n12 : b2 ≠ b1) (n13 : b3 ≠ b1) : Three b1 b2 b3 v1 v2 v3 W (w'.setCell ⟨b1, 0, none⟩ v1) :=
  ⟨h.1.setCell (.inl (by simp)) _, h.2.1.set_ 0 v1, h.2.2.1.far (p := ⟨b1, 0, none⟩) n12 _, h.2.2.2.far (p := ⟨b1, 0, none⟩) n13 _⟩
theorem Three.set2 {b1 b2 b3 : Nat} {v1 v2 v3 : Value} {W w' : World} (h : Three b1 b2 b3 v1 v2 v3 W w') (n12 : b1 ≠ b2) (n13 : b3 ≠ b2) : Three b1 b2 b3 v1 v2 v3 W (w'.setCell ⟨b2, 0, none⟩ v2) :=
  ⟨h.1.setCell (.inl (by simp)) _, h.2.1.far (p := ⟨b2, 0, none⟩) n12 _, h.2.2.1.set_ 0 v2, h.2.2.2.far (p := ⟨b2, 0, none⟩) n13 _⟩
theorem Three.set3 {b1 b2 b3 : Nat} {v1 v2 v3 : Value} {W w' : World} (h : Three b1 b2 b3 v1 v2 v3 W w') (n12 : b1 ≠ b3) (n13 : b2 ≠ b3) : Three b1 b2 b3 v1 v2 v3 W (w'.setCell ⟨b3, 0, none⟩ v3) :=
  ⟨h.1.setCell (.inl (by simp)) _, h.2.1.far (p := ⟨b3, 0, none⟩) n12 _, h.2.2.1.far (p := ⟨b3, 0, none⟩) n13 _, h.2.2.2.set_ 0 v3⟩
theorem Three.cells {b1 b2 b3 : Nat} {v1 v2 v3 : Value} {W w' : World} (h : Three b1 b2 b3 v1 v2 v3 W w') : (w'.cell? ⟨b1, 0, none⟩ = some v1 ∧ w'.cell? ⟨b2, 0, none⟩ = some v2 ∧ w'.cell? ⟨b3, 0, none⟩ = some v3) ∧
    w'.frozen? ⟨b1, 0, none⟩ = false ∧ w'.frozen? ⟨b2, 0, none⟩ = false ∧ w'.frozen? ⟨b3, 0, none⟩ = false :=
  ⟨⟨h.2.1.cell 0, h.2.2.1.cell 0, h.2.2.2.cell 0⟩, h.2.1.free 0, h.2.2.1.free 0, h.2.2.2.free 0⟩
set_option maxRecDepth 100000 in
set_option maxHeartbeats 3200000 in
theorem parse_c (s : ByteArray) (r : LexR) (w : World) (hT : MX w) (hr : LexOf s r) : Calls Tryd.prog 6 #[.string s] w (ParPost s (parR r) w) := by
  have HR := Lib.hid (fun (W : World) (hb : Bel w W) => lex_c s r W (hT.bel hb) hr)
  have hmf : ∀ (fn : Fn) (first cap : Array Value) (w : World), (Instr.makeFunc fn first cap).run Tryd.prog w = .ok (.func fn first cap) w := fun _ _ _ _ => rfl
  have HB0 : Hid (∀ o1 o2 o3, Bel w (((w.alloc o1).alloc o2).alloc o3)) := Lib.hid (fun o1 o2 o3 => ((Bel.alloc _ _).trans (Bel.alloc _ _)).trans (Bel.alloc _ _))
  have HA1 := Lib.hid (((Blk.new w 22 [.slice none 0 0]).alloc (.cells #[.int .i64 0] 3)).alloc (.cells #[.int .i64 0] 25))
  have HA2 := Lib.hid ((Blk.new (w.alloc (.cells #[.slice none 0 0] 22)) 3 [.int .i64 0]).alloc (.cells #[.int .i64 0] 25))
  have HA3 := Lib.hid (Blk.new ((w.alloc (.cells #[.slice none 0 0] 22)).alloc (.cells #[.int .i64 0] 3)) 25 [.int .i64 0])
  simp only [World.size_alloc] at HA2 HA3
  cases r with
  | error bc =>
    obtain ⟨b, c⟩ := bc
    have hc0 := lex_code hr
    have hc1 : ((c : Int) != 0) = true := bne_iff_ne.2 (by omega)
    have hc2 : ¬ (c : Int) = 0 := by omega
    clear hr hc0
    go_enter_defers Tryd.func6, Tryd.ntmps6
    go_wp2_with (go_at_call 17; ((with_reducible refine (HR.out _ (HB0.out _ _ _)).mono ?_); rintro e w1 hp; obtain ⟨hb, rfl⟩ := lex_err hp; have HB1 := Lib.hid ((HB0.out _ _ _).trans hb); have HC1 := Lib.hid (HA1.out.bel hb); have HC2 := Lib.hid (HA2.out.bel hb); have HC3 := Lib.hid (HA3.out.bel hb); clear hp hb; have c2 := HC2.out.cell 0; have f2 := HC2.out.free 0; have c3 : ∀ x, (w1.setCell ⟨w.heap.size + 1, 0, none⟩ x).cell? ⟨w.heap.size + 1 + 1, 0, none⟩ = some (.int .i64 0) := (fun x => (HC3.out.far (p := ⟨w.heap.size + 1, 0, none⟩) (by show ¬ w.heap.size + 1 + 1 = w.heap.size + 1; omega) x).cell 0); have f3 : ∀ x, (w1.setCell ⟨w.heap.size + 1, 0, none⟩ x).frozen? ⟨w.heap.size + 1 + 1, 0, none⟩ = false := (fun x => (HC3.out.far (p := ⟨w.heap.size + 1, 0, none⟩) (by show ¬ w.heap.size + 1 + 1 = w.heap.size + 1; omega) x).free 0); have k3 : ∀ x y, ((w1.setCell ⟨w.heap.size + 1, 0, none⟩ x).setCell ⟨w.heap.size + 1 + 1, 0, none⟩ y).cell? ⟨w.heap.size + 1 + 1, 0, none⟩ = some y := (fun x y => ((HC3.out.far (p := ⟨w.heap.size + 1, 0, none⟩) (by show ¬ w.heap.size + 1 + 1 = w.heap.size + 1; omega) x).set_ 0 y).cell 0); simp only [List.getElem?_cons_zero] at c2))
    have HK : Hid (Three w.heap.size (w.heap.size + 1) (w.heap.size + 1 + 1) (.slice none 0 0) (.int .i64 b) (.int .i64 c) ((w1.setCell ⟨w.heap.size + 1, 0, none⟩ (.int .i64 b)).setCell ⟨w.heap.size + 1 + 1, 0, none⟩ (.int .i64 c)).drew ((w1.setCell ⟨w.heap.size + 1, 0, none⟩ (.int .i64 b)).setCell ⟨w.heap.size + 1 + 1, 0, none⟩ (.int .i64 c)).drew) :=
      Lib.hid ⟨Only.refl _ _, ((HC1.out.far (p := ⟨w.heap.size + 1, 0, none⟩) (by show ¬ w.heap.size = w.heap.size + 1; omega) _).far (p := ⟨w.heap.size + 1 + 1, 0, none⟩) (by show ¬ w.heap.size = w.heap.size + 1 + 1; omega) _).drew, ((HC2.out.set_ 0 _).far (p := ⟨w.heap.size + 1 + 1, 0, none⟩) (by show ¬ w.heap.size + 1 = w.heap.size + 1 + 1; omega) _).drew, ((HC3.out.far (p := ⟨w.heap.size + 1, 0, none⟩) (by show ¬ w.heap.size + 1 + 1 = w.heap.size + 1; omega) _).set_ 0 _).drew⟩
    have HB2 : Hid (Bel w ((w1.setCell ⟨w.heap.size + 1, 0, none⟩ (.int .i64 b)).setCell ⟨w.heap.size + 1 + 1, 0, none⟩ (.int .i64 c)).drew) := Lib.hid (bel_of_only ((((bel_only HB1.out).setCell (p := ⟨w.heap.size + 1, 0, none⟩) (.inr (by simp)) _).setCell (p := ⟨w.heap.size + 1 + 1, 0, none⟩) (.inr (by simp; omega)) _).drew))
    clear c2 f2 c3 f3 k3 HC1 HC2 HC3
    refine held_begin (S := Three w.heap.size (w.heap.size + 1) (w.heap.size + 1 + 1) (.slice none 0 0) (.int .i64 b) (.int .i64 c) ((w1.setCell ⟨w.heap.size + 1, 0, none⟩ (.int .i64 b)).setCell ⟨w.heap.size + 1 + 1, 0, none⟩ (.int .i64 c)).drew) (by kernel_rfl) ?_
    generalize ((w1.setCell ⟨w.heap.size + 1, 0, none⟩ (.int .i64 b)).setCell ⟨w.heap.size + 1 + 1, 0, none⟩ (.int .i64 c)).drew = W at HK HB2 ⊢
    obtain ⟨b2, hb2⟩ : ∃ b2, b2 = w.heap.size + 1 := ⟨_, rfl⟩
    obtain ⟨b3, hb3⟩ : ∃ b3, b3 = w.heap.size + 1 + 1 := ⟨_, rfl⟩
    obtain ⟨b1, hb1⟩ : ∃ b1, b1 = w.heap.size := ⟨_, rfl⟩
    rw [← hb3, ← hb2, ← hb1] at HK ⊢
    have n12 : b1 ≠ b2 := by omega
    have n13 : b1 ≠ b3 := by omega
    have n23 : b2 ≠ b3 := by omega
    have HBS : Hid (w.heap.size ≤ b1 ∧ w.heap.size ≤ b2 ∧ w.heap.size ≤ b3) := Lib.hid (by omega)
    clear hb1 hb2 hb3
    have p2 : ∀ X : Held (Three b1 b2 b3 (.slice none 0 0) (.int .i64 b) (.int .i64 c) W), X.w.cell? ⟨b2, 0, none⟩ = some (.int .i64 b) := fun X => X.h.cells.1.2.1
    have p3 : ∀ X : Held (Three b1 b2 b3 (.slice none 0 0) (.int .i64 b) (.int .i64 c) W), X.w.cell? ⟨b3, 0, none⟩ = some (.int .i64 c) := fun X => X.h.cells.1.2.2
    haveI : Nonempty (Held (Three b1 b2 b3 (.slice none 0 0) (.int .i64 b) (.int .i64 c) W)) := ⟨⟨W, HK.out⟩⟩
    refine held_seg [true, true] 3 (by kernel_rfl) (by kernel_rfl) (by kernel_rfl) rfl HK.out ?_
    repeat (first | with_reducible refine wpMask_pass ?_ | (refine wpMask_want (by rfl) (fun K hK => ?_); go_big_quiet_op; refine hK _ ?_; clear hK K))
    with_reducible refine wpMask_nil ?_
    clear p2 p3
    obtain ⟨⟨x1, x2, x3⟩, y1, y2, y3⟩ := HK.out.cells
    refine held_store (w1 := W.setCell ⟨b1, 0, none⟩ (.slice none 0 0)) 2 (by kernel_rfl) rfl (by rfl) (by go_simp) (HK.out.set1 n12.symm n13.symm) ?_
    have HK2 := Lib.hid (HK.out.set1 n12.symm n13.symm)
    generalize W.setCell ⟨b1, 0, none⟩ (.slice none 0 0) = W1 at HK2 ⊢
    clear x1 x2 x3 y1 y2 y3
    simp only [List.getElem_toArray, List.getElem_cons_zero, List.getElem_cons_succ, Act.put, List.setIfInBounds_toArray, List.set_cons_zero, List.set_cons_succ]
    obtain ⟨⟨x1, x2, x3⟩, y1, y2, y3⟩ := HK2.out.cells
    refine held_store (w1 := W1.setCell ⟨b2, 0, none⟩ (.int .i64 b)) 3 (by kernel_rfl) rfl (by rfl) (by go_simp) (HK2.out.set2 n12 n23.symm) ?_
    have HK3 := Lib.hid (HK2.out.set2 n12 n23.symm)
    generalize W1.setCell ⟨b2, 0, none⟩ (.int .i64 b) = W2 at HK3 ⊢
    clear x1 x2 x3 y1 y2 y3
    simp only [List.getElem_toArray, List.getElem_cons_zero, List.getElem_cons_succ, Act.put, List.setIfInBounds_toArray, List.set_cons_zero, List.set_cons_succ]
    obtain ⟨⟨x1, x2, x3⟩, y1, y2, y3⟩ := HK3.out.cells
    refine held_store (w1 := W2.setCell ⟨b3, 0, none⟩ (.int .i64 c)) 4 (by kernel_rfl) rfl (by rfl) (by go_simp) (HK3.out.set3 n13 n23) ?_
    have HK4 := Lib.hid (HK3.out.set3 n13 n23)
    generalize W2.setCell ⟨b3, 0, none⟩ (.int .i64 c) = W3 at HK4 ⊢
    clear x1 x2 x3 y1 y2 y3
    simp only [List.getElem_toArray, List.getElem_cons_zero, List.getElem_cons_succ, Act.put, List.setIfInBounds_toArray, List.set_cons_zero, List.set_cons_succ]
    refine region_end (by kernel_rfl) ?_
    simp only [calm]
    go_wp2_with fail
    refine ⟨_, doneP rfl rfl rfl rfl HK4.out.2.1 HK4.out.2.2.1 HK4.out.2.2.2, ?_⟩
    exact ⟨bel_of_only ((bel_only HB2.out).join HK4.out.1 (fun k hk => by have := HBS.out; simp at hk; omega)), rfl⟩
  | ok ts =>
    have hG := tsOk_of hr
    have hn := hG.1
    have HIL := Lib.hid (fun (g : Nat) (L : Option Addr) (cL : Nat) (W : World) (hP : Pq W g L cL ts 0) => plist_all ts.length L cL ts 0 0 W hP hG (Nat.le_refl _) (by decide) (by decide))
    clear hr hG
    go_enter_defers Tryd.func6, Tryd.ntmps6
    go_wp2_with (go_at_call 17; ((with_reducible refine (HR.out _ (HB0.out _ _ _)).mono ?_); rintro e w1 hp; obtain ⟨hb, L, cL, rfl, hrow, hfr⟩ := lex_ok hp; have HRW := Lib.hid hrow; have HB1 := Lib.hid ((HB0.out _ _ _).trans hb); have HC1 := Lib.hid (HA1.out.bel hb); have HC2 := Lib.hid (HA2.out.bel hb); have HC3 := Lib.hid (HA3.out.bel hb); clear hp hb hrow; have c2 := HC2.out.cell 0; have f2 := HC2.out.free 0; have c3 : ∀ x, (w1.setCell ⟨w.heap.size + 1, 0, none⟩ x).cell? ⟨w.heap.size + 1 + 1, 0, none⟩ = some (.int .i64 0) := (fun x => (HC3.out.far (p := ⟨w.heap.size + 1, 0, none⟩) (by show ¬ w.heap.size + 1 + 1 = w.heap.size + 1; omega) x).cell 0); have f3 : ∀ x, (w1.setCell ⟨w.heap.size + 1, 0, none⟩ x).frozen? ⟨w.heap.size + 1 + 1, 0, none⟩ = false := (fun x => (HC3.out.far (p := ⟨w.heap.size + 1, 0, none⟩) (by show ¬ w.heap.size + 1 + 1 = w.heap.size + 1; omega) x).free 0); have k3 : ∀ x y, ((w1.setCell ⟨w.heap.size + 1, 0, none⟩ x).setCell ⟨w.heap.size + 1 + 1, 0, none⟩ y).cell? ⟨w.heap.size + 1 + 1, 0, none⟩ = some y := (fun x y => ((HC3.out.far (p := ⟨w.heap.size + 1, 0, none⟩) (by show ¬ w.heap.size + 1 + 1 = w.heap.size + 1; omega) x).set_ 0 y).cell 0); simp only [List.getElem?_cons_zero] at c2))
    have HFR : Hid (∀ k, k ∈ rowT L → w.heap.size + 3 ≤ k ∧ k < w1.heap.size) := Lib.hid (fun k hk => ⟨by have := hfr k hk; simp at this; omega, HRW.out.lt k hk⟩)
    clear hfr c2 f2 c3 f3 k3
    have hs1 : w.heap.size + 3 ≤ w1.heap.size := by have := HC3.out.lt; omega
    obtain ⟨b2, hb2⟩ : ∃ b2, b2 = w.heap.size + 1 := ⟨_, rfl⟩
    obtain ⟨b3, hb3⟩ : ∃ b3, b3 = w.heap.size + 1 + 1 := ⟨_, rfl⟩
    obtain ⟨b1, hb1⟩ : ∃ b1, b1 = w.heap.size := ⟨_, rfl⟩
    rw [← hb3] at HC3
    rw [← hb2] at HC2
    rw [← hb1] at HC1
    rw [← hb3, ← hb2, ← hb1]
    have n12 : b1 ≠ b2 := by omega
    have n13 : b1 ≠ b3 := by omega
    have n23 : b2 ≠ b3 := by omega
    have hbl : b1 < w1.heap.size ∧ b2 < w1.heap.size ∧ b3 < w1.heap.size := by omega
    have HBS : Hid (w.heap.size ≤ b1 ∧ w.heap.size ≤ b2 ∧ w.heap.size ≤ b3) := Lib.hid (by omega)
    have HAF : Hid (∀ k, k ∈ rowT L → k ≠ b1 ∧ k ≠ b2 ∧ k ≠ b3 ∧ k < w1.heap.size) := Lib.hid (fun k hk => by have := HFR.out k hk; omega)
    clear hb1 hb2 hb3
    have HV1 := Lib.hid (((HC1.out.far (p := ⟨b2, 0, none⟩) n12 (.int .i64 s.size)).far (p := ⟨b3, 0, none⟩) n13 (.int .i64 0)).alloc (.cells #[.slice L ts.length cL, .int .i64 0] 63))
    have HV2 := Lib.hid (((HC2.out.set_ 0 (.int .i64 s.size)).far (p := ⟨b3, 0, none⟩) n23 (.int .i64 0)).alloc (.cells #[.slice L ts.length cL, .int .i64 0] 63))
    have HV3 := Lib.hid (((HC3.out.far (p := ⟨b2, 0, none⟩) n23.symm (.int .i64 s.size)).set_ 0 (.int .i64 0)).alloc (.cells #[.slice L ts.length cL, .int .i64 0] 63))
    have hov : Only [b2, b3] w1 (((w1.setCell ⟨b2, 0, none⟩ (.int .i64 s.size)).setCell ⟨b3, 0, none⟩ (.int .i64 0)).alloc (.cells #[.slice L ts.length cL, .int .i64 0] 63)) := (((Only.refl [b2, b3] w1).setCell (.inl (by simp)) _).setCell (.inl (by simp)) _).alloc _
    have HBV := Lib.hid (bel_of_only ((bel_only HB1.out).join hov (fun k hk => by have := HBS.out; simp at hk; omega)))
    have hP : Pq (((w1.setCell ⟨b2, 0, none⟩ (.int .i64 s.size)).setCell ⟨b3, 0, none⟩ (.int .i64 0)).alloc (.cells #[.slice L ts.length cL, .int .i64 0] 63)) w1.heap.size L cL ts 0 := by
      refine ⟨?_, HRW.out.only hov (fun k hk => by have := HAF.out k hk; simp; omega), fun h => by have := HAF.out _ h; omega⟩
      have h := Blk.new ((w1.setCell ⟨b2, 0, none⟩ (.int .i64 s.size)).setCell ⟨b3, 0, none⟩ (.int .i64 0)) 63 [.slice L ts.length cL, .int .i64 0]
      rw [show ((w1.setCell ⟨b2, 0, none⟩ (.int .i64 s.size)).setCell ⟨b3, 0, none⟩ (.int .i64 0)).heap.size = w1.heap.size by simp [World.setCell]] at h
      exact h
    have hVs : (((w1.setCell ⟨b2, 0, none⟩ (.int .i64 s.size)).setCell ⟨b3, 0, none⟩ (.int .i64 0)).alloc (.cells #[.slice L ts.length cL, .int .i64 0] 63)).heap.size = w1.heap.size + 1 := by simp [World.setCell]
    refine (HIL.out _ L cL _ hP).mono ?_
    rintro e w2 ⟨hO, hp⟩
    have hgb : w.heap.size ≤ w1.heap.size := by omega
    clear hov hP HC1 HC2 HC3
    generalize ((w1.setCell ⟨b2, 0, none⟩ (.int .i64 s.size)).setCell ⟨b3, 0, none⟩ (.int .i64 0)).alloc (.cells #[.slice L ts.length cL, .int .i64 0] 63) = V at *
    have H1 := Lib.hid (HV1.out.only hO (by simp; omega))
    have H2 := Lib.hid (HV2.out.only hO (by simp; omega))
    have H3 := Lib.hid (HV3.out.only hO (by simp; omega))
    have HB2 := Lib.hid (bel_on1 HBV.out hO hgb)
    have hs2 : w1.heap.size + 1 ≤ w2.heap.size := by have := hO.size; omega
    simp only [List.set_cons_zero] at H2 H3
    clear hO HV1 HV2 HV3
    cases hpp : P ts 2 false 0 0 with
    | error ak =>
      obtain ⟨a, k⟩ := ak
      rw [hpp] at hp
      dsimp only at hp
      subst hp
      have HPP := Lib.hid hpp
      clear hpp
      go_wp2_with fail
      refine leaves_cons (f := 18) (args := #[.pointer (some ⟨b1, 0, none⟩), .pointer (some ⟨b2, 0, none⟩), .pointer (some ⟨b3, 0, none⟩)]) (by simp) (by simp [go_sem]) ?_
      refine (catch_c b1 b2 b3 a k _ _ _ [] _ H1.out H2.out H3.out n12 n13 n23).mono ?_
      rintro e u' w9 ⟨rfl, rfl, hO9, j1, j2, j3⟩
      show Leaves _ _ _ _ [] .returning _
      refine ⟨_, doneP rfl rfl rfl rfl j1 j2 j3, ?_⟩
      rw [parR_fault HPP.out]
      exact ⟨bel_of_only ((bel_only HB2.out).join hO9 (fun k hk => by have := HBS.out; simp at hk; omega)), rfl⟩
    | ok x =>
      obtain ⟨l, rr, c'⟩ := x
      rw [hpp] at hp
      obtain ⟨B, cB, m, hers, hrow, rfl, ⟨A', cA', hPs, hA'⟩, _⟩ := hp
      have HPP := Lib.hid hpp
      have HE := Lib.hid hers
      have HW := Lib.hid hrow
      have HPS := Lib.hid (hPs.only (w' := w2.setCell ⟨b1, 0, none⟩ (.slice B m.length cB)) (S := [b1]) ((Only.refl [b1] w2).setCell (.inl (by simp)) _) (by simp; omega) (fun k hk => by rw [hA'] at hk; have := HAF.out k hk; simp; omega))
      have K1 := Lib.hid (H1.out.set_ 0 (.slice B m.length cB))
      have K2 := Lib.hid (H2.out.far (p := ⟨b1, 0, none⟩) n12.symm (.slice B m.length cB))
      have K3 := Lib.hid (H3.out.far (p := ⟨b1, 0, none⟩) n13.symm (.slice B m.length cB))
      have HB3 := Lib.hid (bel_of_only ((bel_only HB2.out).setCell (p := ⟨b1, 0, none⟩) (.inr (by have := HBS.out; simp; omega)) (.slice B m.length cB)))
      have x1 := H1.out.cell 0
      have y1 := H1.out.free 0
      simp only [List.getElem?_cons_zero] at x1
      simp only [List.set_cons_zero] at K1
      have q0 := HPS.out.cells.1
      clear hpp hers hrow hPs
      cases rr with
      | nil =>
        simp only [List.length_nil] at q0
        have z1 : ∀ x, (w2.setCell ⟨b1, 0, none⟩ x).cell? ⟨b1, 0, none⟩ = some x ∧ (w2.setCell ⟨b1, 0, none⟩ x).frozen? ⟨b1, 0, none⟩ = false := fun x => ⟨(H1.out.set_ 0 x).cell 0, (H1.out.set_ 0 x).free 0⟩
        have z2 : ∀ x, (w2.setCell ⟨b1, 0, none⟩ x).cell? ⟨b2, 0, none⟩ = some (.int .i64 s.size) ∧ (w2.setCell ⟨b1, 0, none⟩ x).frozen? ⟨b2, 0, none⟩ = false := fun x => ⟨(H2.out.far (p := ⟨b1, 0, none⟩) n12.symm x).cell 0, (H2.out.far (p := ⟨b1, 0, none⟩) n12.symm x).free 0⟩
        have z3 : ∀ x y, ((w2.setCell ⟨b1, 0, none⟩ x).setCell ⟨b1, 0, none⟩ y).cell? ⟨b2, 0, none⟩ = some (.int .i64 s.size) ∧ ((w2.setCell ⟨b1, 0, none⟩ x).setCell ⟨b1, 0, none⟩ y).frozen? ⟨b2, 0, none⟩ = false := fun x y => ⟨((H2.out.far (p := ⟨b1, 0, none⟩) n12.symm x).far (p := ⟨b1, 0, none⟩) n12.symm y).cell 0, ((H2.out.far (p := ⟨b1, 0, none⟩) n12.symm x).far (p := ⟨b1, 0, none⟩) n12.symm y).free 0⟩
        have z4 : ∀ x z, ((w2.setCell ⟨b1, 0, none⟩ x).setCell ⟨b2, 0, none⟩ z).cell? ⟨b3, 0, none⟩ = some (.int .i64 0) ∧ ((w2.setCell ⟨b1, 0, none⟩ x).setCell ⟨b2, 0, none⟩ z).frozen? ⟨b3, 0, none⟩ = false := fun x z => ⟨((H3.out.far (p := ⟨b1, 0, none⟩) n13.symm x).far (p := ⟨b2, 0, none⟩) n23.symm z).cell 0, ((H3.out.far (p := ⟨b1, 0, none⟩) n13.symm x).far (p := ⟨b2, 0, none⟩) n23.symm z).free 0⟩
        have z5 : ∀ x y z, (((w2.setCell ⟨b1, 0, none⟩ x).setCell ⟨b1, 0, none⟩ y).setCell ⟨b2, 0, none⟩ z).cell? ⟨b3, 0, none⟩ = some (.int .i64 0) ∧ (((w2.setCell ⟨b1, 0, none⟩ x).setCell ⟨b1, 0, none⟩ y).setCell ⟨b2, 0, none⟩ z).frozen? ⟨b3, 0, none⟩ = false := fun x y z => ⟨(((H3.out.far (p := ⟨b1, 0, none⟩) n13.symm x).far (p := ⟨b1, 0, none⟩) n13.symm y).far (p := ⟨b2, 0, none⟩) n23.symm z).cell 0, (((H3.out.far (p := ⟨b1, 0, none⟩) n13.symm x).far (p := ⟨b1, 0, none⟩) n13.symm y).far (p := ⟨b2, 0, none⟩) n23.symm z).free 0⟩
        go_wp2_with fail
        have J1 : Blk ((((w2.setCell ⟨b1, 0, none⟩ (.slice B m.length cB)).setCell ⟨b1, 0, none⟩ (.slice B m.length cB)).setCell ⟨b2, 0, none⟩ (.int .i64 s.size)).setCell ⟨b3, 0, none⟩ (.int .i64 0)) b1 22 [.slice B m.length cB] := ((K1.out.set_ 0 (.slice B m.length cB)).far (p := ⟨b2, 0, none⟩) n12 _).far (p := ⟨b3, 0, none⟩) n13 _
        have J2 : Blk ((((w2.setCell ⟨b1, 0, none⟩ (.slice B m.length cB)).setCell ⟨b1, 0, none⟩ (.slice B m.length cB)).setCell ⟨b2, 0, none⟩ (.int .i64 s.size)).setCell ⟨b3, 0, none⟩ (.int .i64 0)) b2 3 [.int .i64 s.size] := ((K2.out.far (p := ⟨b1, 0, none⟩) n12.symm _).set_ 0 (.int .i64 s.size)).far (p := ⟨b3, 0, none⟩) n23 _
        have J3 : Blk ((((w2.setCell ⟨b1, 0, none⟩ (.slice B m.length cB)).setCell ⟨b1, 0, none⟩ (.slice B m.length cB)).setCell ⟨b2, 0, none⟩ (.int .i64 s.size)).setCell ⟨b3, 0, none⟩ (.int .i64 0)) b3 25 [.int .i64 0] := ((K3.out.far (p := ⟨b1, 0, none⟩) n13.symm _).far (p := ⟨b2, 0, none⟩) n23.symm _).set_ 0 (.int .i64 0)
        have hJO : Only [b1, b2, b3] w2 ((((w2.setCell ⟨b1, 0, none⟩ (.slice B m.length cB)).setCell ⟨b1, 0, none⟩ (.slice B m.length cB)).setCell ⟨b2, 0, none⟩ (.int .i64 s.size)).setCell ⟨b3, 0, none⟩ (.int .i64 0)) := ((((Only.refl [b1, b2, b3] w2).setCell (.inl (by simp)) _).setCell (.inl (by simp)) _).setCell (.inl (by simp)) _).setCell (.inl (by simp)) _
        clear x1 y1 q0 z1 z2 z3 z4 z5
        generalize ((((w2.setCell ⟨b1, 0, none⟩ (.slice B m.length cB)).setCell ⟨b1, 0, none⟩ (.slice B m.length cB)).setCell ⟨b2, 0, none⟩ (.int .i64 s.size)).setCell ⟨b3, 0, none⟩ (.int .i64 0)) = w5 at J1 J2 J3 hJO ⊢
        have HB5 := Lib.hid (bel_of_only ((bel_only HB2.out).join hJO (fun k hk => by have := HBS.out; simp at hk; omega)))
        have hR5 : Row w5 (fun q => V.heap.size ≤ q ∧ q < w2.heap.size) B cB m := HW.out.onlyS hJO (fun q hq => ⟨by have := hq.1; simp; omega, hq.2⟩) (fun q hq => hq)
        have hs5 := hJO.size
        refine leaves_cons (f := 18) (args := #[.pointer (some ⟨b1, 0, none⟩), .pointer (some ⟨b2, 0, none⟩), .pointer (some ⟨b3, 0, none⟩)]) (by simp) (by simp [go_sem]) ?_
        refine (catch_idle b1 b2 b3 _).mono ?_
        rintro e u' w9 ⟨rfl, rfl, hb9⟩
        show Leaves _ _ _ _ [] .returning _
        refine ⟨_, doneP rfl rfl rfl rfl (J1.bel hb9) (J2.bel hb9) (J3.bel hb9), ?_⟩
        rw [parR_fin HPP.out]
        have hs9 := hb9.size
        exact ⟨HB5.out.trans hb9, B, cB, m, HE.out, hR5.onlyS (bel_only hb9) (fun q hq => ⟨by simp, by have := hq.2; omega⟩) (fun q hq => ⟨by have := hq.1; omega, by have := hq.2; omega⟩), rfl⟩
      | cons u r2 =>
        obtain ⟨g1, o1, hA2, hg1, c0, c1, c2, c3, c4⟩ := HPS.out.tok
        subst hA2
        simp only [List.length_cons] at q0
        have hlen1 : (0 : Int) < (r2.length : Int) + 1 := by omega
        go_wp2_with fail
        refine leaves_cons (f := 18) (args := #[.pointer (some ⟨b1, 0, none⟩), .pointer (some ⟨b2, 0, none⟩), .pointer (some ⟨b3, 0, none⟩)]) (by simp) (by simp [go_sem]) ?_
        refine (catch_c b1 b2 b3 u.a 13 _ _ _ [] _ K1.out K2.out K3.out n12 n13 n23).mono ?_
        rintro e u' w9 ⟨rfl, rfl, hO9, j1, j2, j3⟩
        show Leaves _ _ _ _ [] .returning _
        refine ⟨_, doneP rfl rfl rfl rfl j1 j2 j3, ?_⟩
        rw [parR_rest HPP.out]
        exact ⟨bel_of_only ((bel_only HB3.out).join hO9 (fun k hk => by have := HBS.out; simp at hk; omega)), rfl⟩
end Go.Proofs.YthbcjljkpnkakaaDoor
