/-
  Contract: provider.clone.
-/
import Derived.Test.YtollcekcmnokaaaCl10B
namespace Go.Proofs.Ytollcekcmnokaaa
open Go.RowKit Go.BigFrame
set_option linter.unusedVariables false
set_option linter.unusedSimpArgs false

set_option maxRecDepth 100000 in
set_option maxHeartbeats 3200000 in
theorem clone_c : ∀ (f : Nat) (t : VT) (w : World) (hf : SizeOf.sizeOf t < f) (hI : t.In w (· < w.heap.size)),
    Calls Try.prog 18 #[.agg #[.int .i64 t.k, .string t.s, .int .i64 t.n, .bool t.b, .slice t.A t.xs.length t.c, .slice t.F t.vs.length t.d]] w (ClR t w) := by
  intro f
  induction f with
  | zero => intro t w hf; omega
  | succ f ih =>
  intro t w hf hI
  obtain ⟨hby1, hby2⟩ := hI.bytes
  obtain ⟨hk1, hn1, hs1, hc1, hc2, hd1, hd2, hkl⟩ := hI.bounds
  have HI := Lib.hid hI
  have HX := Lib.hid (fun (i : Nat) (x : VT) (hx : t.xs[i]? = some x) (W : World) (hb : Bel w W) => ih x W (by have := VT.size_xs (List.mem_of_getElem? hx); omega) ((by cases hI with | mk _ _ _ _ _ _ _ _ _ hx' _ _ => exact hx' x (List.mem_of_getElem? hx) : x.In w (· < w.heap.size)).bel hb))
  have HV := Lib.hid (fun (i : Nat) (x : VT) (hx : t.vs[i]? = some x) (W : World) (hb : Bel w W) => ih x W (by have := VT.size_vs (List.mem_of_getElem? hx); omega) ((by cases hI with | mk _ _ _ _ _ _ _ _ _ _ hv' _ => exact hv' x (List.mem_of_getElem? hx) : x.In w (· < w.heap.size)).bel hb))
  have HKL := Lib.hid hkl
  have HCX := Lib.hid (fun (W : World) (hb : Bel w W) => cloneV_c t.A t.c t.xs W (hI.srcX.bel hb) hby1)
  have HCV := Lib.hid (fun (W : World) (hb : Bel w W) => (show Calls Try.prog 30 #[.slice t.F t.vs.length t.d] W (ClS 49 7 fF (t.ks.zip t.vs) W) from by
    have h := cloneF_c t.F t.d (t.ks.zip t.vs) W (hI.srcV.bel hb) (by rw [hI.len7]; exact hby2)
    rw [hI.len7] at h
    exact h))
  have HL7 := Lib.hid hI.len7
  clear ih hf hI hkl
  obtain ⟨n, hn⟩ : ∃ n, n = t.xs.length := ⟨_, rfl⟩
  obtain ⟨m, hm⟩ : ∃ m, m = t.vs.length := ⟨_, rfl⟩
  rw [← hn] at hc1 hby1 HCX ⊢
  rw [← hm] at hd1 hby2 HCV HKL HL7 ⊢
  have HN := Lib.hid hn
  have HM := Lib.hid hm
  have HV0 : Hid (Blk ((w.alloc (.cells #[.int .i64 t.k, .string t.s, .int .i64 t.n, .bool t.b, .slice t.A n t.c, .slice t.F m t.d] 27)).alloc (.cells #[.int .i64 0, .string ByteArray.empty, .int .i64 0, .bool false, .slice none 0 0, .slice none 0 0] 27)) w.heap.size 27 [.int .i64 t.k, .string t.s, .int .i64 t.n, .bool t.b, .slice t.A n t.c, .slice t.F m t.d]) := Lib.hid ((Blk.new w 27 _).alloc _)
  have HZ0 : Hid (Blk ((w.alloc (.cells #[.int .i64 t.k, .string t.s, .int .i64 t.n, .bool t.b, .slice t.A n t.c, .slice t.F m t.d] 27)).alloc (.cells #[.int .i64 0, .string ByteArray.empty, .int .i64 0, .bool false, .slice none 0 0, .slice none 0 0] 27)) (w.heap.size + 1) 27 VT.zero.cs) := Lib.hid (by
    have h := Blk.new (w.alloc (.cells #[.int .i64 t.k, .string t.s, .int .i64 t.n, .bool t.b, .slice t.A n t.c, .slice t.F m t.d] 27)) 27 VT.zero.cs
    rwa [show (w.alloc (.cells #[.int .i64 t.k, .string t.s, .int .i64 t.n, .bool t.b, .slice t.A n t.c, .slice t.F m t.d] 27)).heap.size = w.heap.size + 1 by simp] at h)
  have HW0 : Hid (Bel w ((w.alloc (.cells #[.int .i64 t.k, .string t.s, .int .i64 t.n, .bool t.b, .slice t.A n t.c, .slice t.F m t.d] 27)).alloc (.cells #[.int .i64 0, .string ByteArray.empty, .int .i64 0, .bool false, .slice none 0 0, .slice none 0 0] 27))) := Lib.hid ((Bel.alloc _ _).trans (Bel.alloc _ _))
  have HS0 : Hid (w.heap.size + 2 ≤ ((w.alloc (.cells #[.int .i64 t.k, .string t.s, .int .i64 t.n, .bool t.b, .slice t.A n t.c, .slice t.F m t.d] 27)).alloc (.cells #[.int .i64 0, .string ByteArray.empty, .int .i64 0, .bool false, .slice none 0 0, .slice none 0 0] 27)).heap.size) := Lib.hid (by simp)
  clear hn hm
  go_enter Try.func18, Try.ntmps18
  go_wp2_with (go_at_call 29; refine (HCX.out _ HW0.out).mono ?_; rintro e w1 ⟨G, d, rfl, hr, hg, hb⟩; have HR1 := Lib.hid hr; have HG1 : Hid (∀ k, k ∈ rowT G → w.heap.size + 2 ≤ k) := Lib.hid (fun k hk => Nat.le_trans HS0.out (hg k hk)); have HB1 := Lib.hid (HW0.out.trans hb); have HV1 := Lib.hid (HV0.out.below hb HV0.out.lt); have HZ1 := Lib.hid (HZ0.out.below hb HZ0.out.lt); have v4 := HV1.out.cell 4; have f4 := HV1.out.free 4; rw [← HN.out]; clear hr hg hb)
  have HO1 : Hid (Only [w.heap.size] w1 (w1.setCell ⟨w.heap.size, 4, none⟩ (.slice G n d))) := Lib.hid ((Only.refl [w.heap.size] w1).setCell (.inl (by simp)) _)
  go_loopw [14] (fun s14 wr => ∃ (k : Nat) (us : List VT), k ≤ n ∧ s14 = .int .i64 k ∧ Hid (Bel w wr) ∧ Hid (w.heap.size + 2 ≤ wr.heap.size) ∧ Hid (Blk wr w.heap.size 27 [.int .i64 t.k, .string t.s, .int .i64 t.n, .bool t.b, .slice G n d, .slice t.F m t.d]) ∧ Hid (Blk wr (w.heap.size + 1) 27 VT.zero.cs) ∧
      Hid (ItemsAt t wr (w.heap.size + 2) G d us k)) (fun s14 _ => n - (intOf s14).toNat)
  case atStart =>
    exact ⟨0, [], Nat.zero_le _, rfl, Lib.hid (bel_on1 HB1.out HO1.out (Nat.le_refl _)), Lib.hid (by have := HZ1.out.lt; have := HO1.out.size; omega), Lib.hid (HV1.out.set_ 4 _), Lib.hid (HZ1.out.far (by simp) _),
      Lib.hid (ItemsAt.start (w := w1) (n := n) (HR1.out.only HO1.out (fun k hk hm => by have := HG1.out k hk; simp at hm; omega)) HG1.out)⟩
  case round =>
    obtain ⟨k, us, hk, rfl, HB, HS, HVB, HZB, HIT⟩ := hrel
    clear v4 f4
    have v4 := HVB.out.cell 4
    by_cases hlt : k < n
    · have hkx : k < t.xs.length := by have := HN.out; omega
      have hxk := List.getElem?_eq_getElem hkx
      generalize t.xs[k] = x at hxk
      obtain ⟨g, o, hG, hgl, hlo, c0, c1, c2, c3, c4, c5⟩ := HIT.out.cells hxk
      have HXK := Lib.hid hxk
      clear hxk
      subst hG
      go_wp2_with fail
      have HBX : Hid (Blk (wr.alloc (.cells #[.int .i64 x.k, .string x.s, .int .i64 x.n, .bool x.b, .slice x.A x.xs.length x.c, .slice x.F x.vs.length x.d] 27)).drew wr.heap.size 27 x.cs) := Lib.hid (Blk.new wr 27 x.cs).drew
      have HWB : Hid (Bel wr (wr.alloc (.cells #[.int .i64 x.k, .string x.s, .int .i64 x.n, .bool x.b, .slice x.A x.xs.length x.c, .slice x.F x.vs.length x.d] 27)).drew) := Lib.hid ((Bel.alloc _ _).trans (Bel.drew _))
      refine region_begin (T := [g]) (by kernel_rfl) ?_
      generalize (wr.alloc (.cells #[.int .i64 x.k, .string x.s, .int .i64 x.n, .bool x.b, .slice x.A x.xs.length x.c, .slice x.F x.vs.length x.d] 27)).drew = W at HBX HWB ⊢
      have HCALL := Lib.hid (HX.out k x HXK.out W (HB.out.trans HWB.out))
      have HVW := Lib.hid (HVB.out.below HWB.out HVB.out.lt)
      have b4 : ∀ X : Later [g] W, X.w.cell? ⟨w.heap.size, 4, none⟩ = some (.slice (some ⟨g, o, none⟩) n d) := fun X => (only_cell X.h HVW.out.lt (by simp; omega)).trans (HVW.out.cell 4)
      have i0 : ∀ X : Later [g] W, X.w.cell? ⟨wr.heap.size, 0, none⟩ = some (.int .i64 x.k) := fun X => (only_cell X.h HBX.out.lt (by simp; omega)).trans (HBX.out.cell 0)
      have i1 : ∀ X : Later [g] W, X.w.cell? ⟨wr.heap.size, 1, none⟩ = some (.string x.s) := fun X => (only_cell X.h HBX.out.lt (by simp; omega)).trans (HBX.out.cell 1)
      have i2 : ∀ X : Later [g] W, X.w.cell? ⟨wr.heap.size, 2, none⟩ = some (.int .i64 x.n) := fun X => (only_cell X.h HBX.out.lt (by simp; omega)).trans (HBX.out.cell 2)
      have i3 : ∀ X : Later [g] W, X.w.cell? ⟨wr.heap.size, 3, none⟩ = some (.bool x.b) := fun X => (only_cell X.h HBX.out.lt (by simp; omega)).trans (HBX.out.cell 3)
      have i4 : ∀ X : Later [g] W, X.w.cell? ⟨wr.heap.size, 4, none⟩ = some (.slice x.A x.xs.length x.c) := fun X => (only_cell X.h HBX.out.lt (by simp; omega)).trans (HBX.out.cell 4)
      have i5 : ∀ X : Later [g] W, X.w.cell? ⟨wr.heap.size, 5, none⟩ = some (.slice x.F x.vs.length x.d) := fun X => (only_cell X.h HBX.out.lt (by simp; omega)).trans (HBX.out.cell 5)
      refine region_seg [true, true, true, true] 3 (by kernel_rfl) (by kernel_rfl) (by kernel_rfl) rfl (fun _ _ d _ _ h => by cases d <;> exact h) ?_
      repeat (first | with_reducible refine wpMask_pass ?_ | (refine wpMask_want (by rfl) (fun K hK => ?_); go_big_quiet_op; refine hK _ ?_; clear hK K))
      with_reducible refine wpMask_nil ?_
      clear b4 i0 i1 i2 i3 i4 i5
      refine region_call 4 (by kernel_rfl) rfl (by rfl) (by go_simp; exact ⟨rfl, rfl⟩) ?_
      refine HCALL.out.mono ?_
      rintro e w2 ⟨y, rfl, hb, hy, hp⟩
      refine ⟨_, rfl, (bel_only hb).more (by simp), ?_⟩
      simp only [List.getElem_toArray, List.getElem_cons_zero, List.getElem_cons_succ, Act.put, List.setIfInBounds_toArray, List.set_cons_zero, List.set_cons_succ]
      have HB2 := Lib.hid (HWB.out.trans hb)
      have HY := Lib.hid (hy.only (Only.refl [] w2) (fun g hg => ⟨by simp, hg.2⟩) (Q' := fun g => wr.heap.size ≤ g ∧ g < w2.heap.size) (fun g hg => ⟨Nat.le_trans HWB.out.size hg.1, hg.2⟩))
      have HP := Lib.hid hp
      clear hb hy hp
      refine region_seg [false, false, false, false, false, true] 1 (by kernel_rfl) (by kernel_rfl) (by kernel_rfl) rfl (fun _ _ d _ _ h => by cases d <;> exact h) ?_
      repeat (first | with_reducible refine wpMask_pass ?_ | (refine wpMask_want (by rfl) (fun K hK => ?_); go_big_quiet_op; refine hK _ ?_; clear hK K))
      with_reducible refine wpMask_nil ?_
      have m0 := (HB2.out.cell hgl).trans c0
      have m1 := (HB2.out.cell hgl).trans c1
      have m2 := (HB2.out.cell hgl).trans c2
      have m3 := (HB2.out.cell hgl).trans c3
      have m4 := (HB2.out.cell hgl).trans c4
      have m5 := (HB2.out.cell hgl).trans c5
      have HFR := (HIT.out.bel HB2.out).row.free rfl
      have f0 := HFR (o + k * 6)
      have f1 := HFR (o + k * 6 + 1)
      have f2 := HFR (o + k * 6 + 2)
      have f3 := HFR (o + k * 6 + 3)
      have f4 := HFR (o + k * 6 + 4)
      have f5 := HFR (o + k * 6 + 5)
      clear c0 c1 c2 c3 c4 c5 HFR
      refine region_store (w1 := setC w2 g (o + (k * 6 + 0)) y.cs) 6 (by kernel_rfl) rfl (by rfl) (by go_simp; rfl) ((only_setC _ _ _)) ?_
      clear m0 m1 m2 m3 m4 m5 f0 f1 f2 f3 f4 f5
      refine region_end (by kernel_rfl) ?_
      simp only [List.getElem_toArray, List.getElem_cons_zero, List.getElem_cons_succ, Act.put, List.setIfInBounds_toArray, List.set_cons_zero, List.set_cons_succ]
      have HSO : Hid (Only [g] w2 (setC w2 g (o + (k * 6 + 0)) y.cs)) := Lib.hid (only_setC _ _ _)
      have HIT2 := Lib.hid (HIT.out.push HS.out rfl HXK.out HB2.out HY.out HP.out)
      have HBN : Hid (Bel w (setC w2 g (o + (k * 6 + 0)) y.cs)) := Lib.hid (bel_on1 (HB.out.trans HB2.out) HSO.out (by omega))
      have HSN : Hid (w.heap.size + 2 ≤ (setC w2 g (o + (k * 6 + 0)) y.cs).heap.size) := Lib.hid (Nat.le_trans HS.out (Nat.le_trans HB2.out.size HSO.out.size))
      have HVN := Lib.hid ((HVB.out.below HB2.out HVB.out.lt).only HSO.out (by simp; omega))
      have HZN := Lib.hid ((HZB.out.below HB2.out HZB.out.lt).only HSO.out (by simp; omega))
      generalize setC w2 g (o + (k * 6 + 0)) y.cs = wn at *
      clear HSO
      go_wp2_with fail
      go_roundw
      case rel => exact ⟨k + 1, us ++ [y], by omega, by go_num, HBN, HSN, HVN, HZN, HIT2⟩
      case measure => simp [intOf]; omega
    · obtain rfl : n = k := by omega
      clear HV1 HZ1 HR1 HG1 HO1 HB1 HV0 HZ0
      have v5 := HVB.out.cell 5
      have f5 := HVB.out.free 5
      have HW1 := Lib.hid (rfl : wr = wr)
      go_wp2_with (go_at_call 30; refine (HCV.out _ HB.out).mono ?_; rintro e w3 ⟨G2, d2, rfl, hr, hg, hb⟩; have HR3 := Lib.hid hr; have HG3 : Hid (∀ k, k ∈ rowT G2 → wr.heap.size ≤ k) := Lib.hid hg; have HB3 := Lib.hid hb; have HV3 := Lib.hid (HVB.out.below hb HVB.out.lt); have HZ3 := Lib.hid (HZB.out.below hb HZB.out.lt); clear v4 v5 f5; have v5 := HV3.out.cell 5; have f5 := HV3.out.free 5; rw [HL7.out]; clear hr hg hb)
      have HO3 : Hid (Only [w.heap.size] w3 (w3.setCell ⟨w.heap.size, 5, none⟩ (.slice G2 m d2))) := Lib.hid ((Only.refl [w.heap.size] w3).setCell (.inl (by simp)) _)
      have HOA : Hid (Only [w.heap.size] wr (w3.setCell ⟨w.heap.size, 5, none⟩ (.slice G2 m d2))) := Lib.hid ((bel_only HB3.out |>.more (by simp)).trans HO3.out)
      have HVA := Lib.hid (HV3.out.set_ 5 (.slice G2 m d2))
      have HZA := Lib.hid (HZ3.out.only HO3.out (by simp))
      have HFA := Lib.hid (FieldsAt.start (t := t) (w := w3) (w' := w3.setCell ⟨w.heap.size, 5, none⟩ (.slice G2 m d2)) (n := n) (HR3.out.only HO3.out (fun k hk hm => by have := HG3.out k hk; have := HS.out; simp at hm; omega)) HG3.out)
      clear HO3 HV3 HZ3 HR3 HVB HZB HB3 v5 f5 HCX HCV
      generalize w3.setCell ⟨w.heap.size, 5, none⟩ (.slice G2 m d2) = wA at *
      obtain ⟨wB, HWB0⟩ : ∃ wB, Hid (wB = wr) := ⟨wr, Lib.hid rfl⟩
      have e9 := HWB0.out
      subst e9
      go_loopw [33] (fun s33 wq => ∃ (j : Nat) (fs : List VT), j ≤ m ∧ s33 = .int .i64 j ∧ Hid (Only [w.heap.size] wB wq) ∧ Hid (Blk wq w.heap.size 27 [.int .i64 t.k, .string t.s, .int .i64 t.n, .bool t.b, .slice G n d, .slice G2 m d2]) ∧ Hid (Blk wq (w.heap.size + 1) 27 VT.zero.cs) ∧
          Hid (FieldsAt t wq wB.heap.size G2 d2 fs j)) (fun s33 _ => m - (intOf s33).toNat)
      case atStart => exact ⟨0, [], Nat.zero_le _, rfl, HOA, HVA, HZA, HFA⟩
      case round =>
        obtain ⟨j, fs, hj, rfl, HOQ, HVQ, HZQ, HFT⟩ := hrel
        have v5 := HVQ.out.cell 5
        by_cases hlt : j < m
        · have hjx : j < t.vs.length := by have := HM.out; omega
          have hjk : j < t.ks.length := by have := HKL.out; omega
          have hxj := List.getElem?_eq_getElem hjx
          have hkj := List.getElem?_eq_getElem hjk
          generalize t.vs[j] = x at hxj
          generalize t.ks[j] = key at hkj
          obtain ⟨g, o, hG, hgl, hlo, ck, c0, c1, c2, c3, c4, c5⟩ := HFT.out.cells hkj hxj
          have HXJ := Lib.hid hxj
          have HKJ := Lib.hid hkj
          have HSQ : Hid (wB.heap.size ≤ wr.heap.size) := Lib.hid HOQ.out.size
          have hs2 := HS.out
          have HBQ : Hid (Bel w wr) := Lib.hid (bel_on1 HB.out HOQ.out (Nat.le_refl _))
          clear hxj hkj
          subst hG
          go_wp2_with fail
          have HBX : Hid (Blk (wr.alloc (.cells #[.string key, .int .i64 x.k, .string x.s, .int .i64 x.n, .bool x.b, .slice x.A x.xs.length x.c, .slice x.F x.vs.length x.d] 49)).drew wr.heap.size 49 (fF (key, x))) := Lib.hid (Blk.new wr 49 (fF (key, x))).drew
          have HWB : Hid (Bel wr (wr.alloc (.cells #[.string key, .int .i64 x.k, .string x.s, .int .i64 x.n, .bool x.b, .slice x.A x.xs.length x.c, .slice x.F x.vs.length x.d] 49)).drew) := Lib.hid ((Bel.alloc _ _).trans (Bel.drew _))
          refine region_begin (T := [g]) (by kernel_rfl) ?_
          generalize (wr.alloc (.cells #[.string key, .int .i64 x.k, .string x.s, .int .i64 x.n, .bool x.b, .slice x.A x.xs.length x.c, .slice x.F x.vs.length x.d] 49)).drew = W at HBX HWB ⊢
          have HCALL := Lib.hid (HV.out j x HXJ.out W (HBQ.out.trans HWB.out))
          have HVW := Lib.hid (HVQ.out.below HWB.out HVQ.out.lt)
          have b5 : ∀ X : Later [g] W, X.w.cell? ⟨w.heap.size, 5, none⟩ = some (.slice (some ⟨g, o, none⟩) m d2) := fun X => (only_cell X.h HVW.out.lt (by simp; omega)).trans (HVW.out.cell 5)
          have i0 : ∀ X : Later [g] W, X.w.cell? ⟨wr.heap.size, 1, none⟩ = some (.int .i64 x.k) := fun X => (only_cell X.h HBX.out.lt (by simp; omega)).trans (HBX.out.cell 1)
          have i1 : ∀ X : Later [g] W, X.w.cell? ⟨wr.heap.size, 2, none⟩ = some (.string x.s) := fun X => (only_cell X.h HBX.out.lt (by simp; omega)).trans (HBX.out.cell 2)
          have i2 : ∀ X : Later [g] W, X.w.cell? ⟨wr.heap.size, 3, none⟩ = some (.int .i64 x.n) := fun X => (only_cell X.h HBX.out.lt (by simp; omega)).trans (HBX.out.cell 3)
          have i3 : ∀ X : Later [g] W, X.w.cell? ⟨wr.heap.size, 4, none⟩ = some (.bool x.b) := fun X => (only_cell X.h HBX.out.lt (by simp; omega)).trans (HBX.out.cell 4)
          have i4 : ∀ X : Later [g] W, X.w.cell? ⟨wr.heap.size, 5, none⟩ = some (.slice x.A x.xs.length x.c) := fun X => (only_cell X.h HBX.out.lt (by simp; omega)).trans (HBX.out.cell 5)
          have i5 : ∀ X : Later [g] W, X.w.cell? ⟨wr.heap.size, 6, none⟩ = some (.slice x.F x.vs.length x.d) := fun X => (only_cell X.h HBX.out.lt (by simp; omega)).trans (HBX.out.cell 6)
          refine region_seg [true, true, true, true, true] 4 (by kernel_rfl) (by kernel_rfl) (by kernel_rfl) rfl (fun _ _ d _ _ h => by cases d <;> exact h) ?_
          repeat (first | with_reducible refine wpMask_pass ?_ | (refine wpMask_want (by rfl) (fun K hK => ?_); go_big_quiet_op; refine hK _ ?_; clear hK K))
          with_reducible refine wpMask_nil ?_
          clear b5 i0 i1 i2 i3 i4 i5
          refine region_call 5 (by kernel_rfl) rfl (by rfl) (by go_simp; exact ⟨rfl, rfl⟩) ?_
          refine HCALL.out.mono ?_
          rintro e w2 ⟨y, rfl, hb, hy, hp⟩
          refine ⟨_, rfl, (bel_only hb).more (by simp), ?_⟩
          simp only [List.getElem_toArray, List.getElem_cons_zero, List.getElem_cons_succ, Act.put, List.setIfInBounds_toArray, List.set_cons_zero, List.set_cons_succ]
          have HB2 := Lib.hid (HWB.out.trans hb)
          have HY := Lib.hid (hy.only (Only.refl [] w2) (fun g hg => ⟨by simp, hg.2⟩) (Q' := fun g => wr.heap.size ≤ g ∧ g < w2.heap.size) (fun g hg => ⟨Nat.le_trans HWB.out.size hg.1, hg.2⟩))
          have HP := Lib.hid hp
          clear hb hy hp
          refine region_seg [false, false, false, false, false, false, true, true] 1 (by kernel_rfl) (by kernel_rfl) (by kernel_rfl) rfl (fun _ _ d _ _ h => by cases d <;> exact h) ?_
          repeat (first | with_reducible refine wpMask_pass ?_ | (refine wpMask_want (by rfl) (fun K hK => ?_); go_big_quiet_op; refine hK _ ?_; clear hK K))
          with_reducible refine wpMask_nil ?_
          have m0 := (HB2.out.cell hgl).trans c0
          have m1 := (HB2.out.cell hgl).trans c1
          have m2 := (HB2.out.cell hgl).trans c2
          have m3 := (HB2.out.cell hgl).trans c3
          have m4 := (HB2.out.cell hgl).trans c4
          have m5 := (HB2.out.cell hgl).trans c5
          have HFR := (HFT.out.bel HB2.out).row.free rfl
          have f0 := HFR (o + j * 7 + 1)
          have f1 := HFR (o + j * 7 + 2)
          have f2 := HFR (o + j * 7 + 3)
          have f3 := HFR (o + j * 7 + 4)
          have f4 := HFR (o + j * 7 + 5)
          have f5 := HFR (o + j * 7 + 6)
          clear ck c0 c1 c2 c3 c4 c5 HFR
          refine region_store (w1 := setC w2 g (o + (j * 7 + 1)) y.cs) 8 (by kernel_rfl) rfl (by rfl) (by go_simp; rfl) ((only_setC _ _ _)) ?_
          clear m0 m1 m2 m3 m4 m5 f0 f1 f2 f3 f4 f5
          refine region_end (by kernel_rfl) ?_
          simp only [List.getElem_toArray, List.getElem_cons_zero, List.getElem_cons_succ, Act.put, List.setIfInBounds_toArray, List.set_cons_zero, List.set_cons_succ]
          have HSO : Hid (Only [g] w2 (setC w2 g (o + (j * 7 + 1)) y.cs)) := Lib.hid (only_setC _ _ _)
          have HFT2 := Lib.hid (HFT.out.push HSQ.out rfl HKJ.out HXJ.out HB2.out HY.out HP.out)
          have HON : Hid (Only [w.heap.size] wB (setC w2 g (o + (j * 7 + 1)) y.cs)) := Lib.hid ((HOQ.out.trans ((bel_only HB2.out).more (by simp))).join HSO.out (fun i hi => by simp at hi; exact .inr (by omega)))
          have HVN := Lib.hid ((HVQ.out.below HB2.out HVQ.out.lt).only HSO.out (by simp; omega))
          have HZN := Lib.hid ((HZQ.out.below HB2.out HZQ.out.lt).only HSO.out (by simp; omega))
          generalize setC w2 g (o + (j * 7 + 1)) y.cs = wn at *
          clear HSO
          go_wp2_with fail
          go_roundw
          case rel => exact ⟨j + 1, fs ++ [y], by omega, by go_num, HON, HVN, HZN, HFT2⟩
          case measure => simp [intOf]; omega
        · obtain rfl : m = j := by omega
          have v0 := HVQ.out.cell 0
          have v1 := HVQ.out.cell 1
          have v2 := HVQ.out.cell 2
          have v3 := HVQ.out.cell 3
          have v4 := HVQ.out.cell 4
          obtain ⟨y0, y1, y2, y3, y4, y5⟩ := cs_cells HZQ.out
          have f0 := HZQ.out.free 0
          have f1 := HZQ.out.free 1
          have f2 := HZQ.out.free 2
          have f3 := HZQ.out.free 3
          have f4 := HZQ.out.free 4
          have f5 := HZQ.out.free 5
          go_wp2_with fail
          have hi := HIT.out
          have hf := HFT.out
          rw [HN.out] at hi
          rw [HM.out] at hf
          obtain rfl : us.length = n := hi.len.trans HN.out.symm
          obtain rfl : fs.length = m := hf.len.trans HM.out.symm
          refine bodyPost_ret (done2d (u := .mk t.k t.s t.n t.b G d us G2 d2 t.ks fs) rfl rfl (set6 HZQ.out _ _ _ _ _ _)) rfl ?_
          exact clone_done HI.out hi HOQ.out hf (Nat.le_refl _) HS.out (bel_on1 HB.out HOQ.out (Nat.le_refl _)) ((only6 _ _ _ _ _ _ _ _).more (by simp))
end Go.Proofs.Ytollcekcmnokaaa
