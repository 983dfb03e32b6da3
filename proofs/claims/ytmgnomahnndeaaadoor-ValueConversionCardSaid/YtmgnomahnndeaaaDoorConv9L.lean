/-
  Contract: convertList.
-/
import Derived.Test.YtmgnomahnndeaaaDoorConv9
namespace Go.Proofs.YtmgnomahnndeaaaDoor
open Go.RowKit Go.BigFrame
set_option linter.unusedVariables false
set_option linter.unusedSimpArgs false

/-- The first elements of a row of values are these trees. -/
def RowIs (w : World) (B lo : Nat) (L : List Value) (ts : List VT) : Prop :=
  Blk w B 34 L ∧ (∀ i (t : VT), ts[i]? = some t → (∀ j, j < 6 → L[i * 6 + j]? = t.cs[j]?) ∧ t.In w (fun g => lo ≤ g ∧ g < w.heap.size))
theorem RowIs.start {w : World} {B lo : Nat} {L : List Value} (h : Blk w B 34 L) : RowIs w B lo L [] := ⟨h, fun i t ht => by simp at ht⟩
theorem RowIs.only {w w' : World} {B lo : Nat} {L : List Value} {ts : List VT} {S : List Nat} (h : RowIs w B lo L ts) (ho : Only S w w') (hB : B ∉ S) (hS : ∀ g, g ∈ S → g < lo ∨ w.heap.size ≤ g) : RowIs w' B lo L ts :=
  ⟨h.1.only ho hB, fun i t ht => ⟨(h.2 i t ht).1, (h.2 i t ht).2.only ho (fun g hg => ⟨fun hs => by have := hS g hs; omega, hg.2⟩) (fun g hg => ⟨hg.1, Nat.lt_of_lt_of_le hg.2 ho.size⟩)⟩⟩
/-- One more element is written. -/
theorem RowIs.push {w : World} {B lo : Nat} {L : List Value} {ts : List VT} {t : VT} {n : Nat} (h : RowIs w B lo L ts) (hB : B < lo) (hl : L.length = n * 6) (hn : ts.length < n) (ht : t.In w (fun g => lo ≤ g ∧ g < w.heap.size)) :
    ∃ L', L'.length = n * 6 ∧ RowIs ((((((w.setCell ⟨B, ts.length * 6, none⟩ (.int .i64 t.k)).setCell ⟨B, ts.length * 6 + 1, none⟩ (.string t.s)).setCell ⟨B, ts.length * 6 + 2, none⟩ (.int .i64 t.n)).setCell ⟨B, ts.length * 6 + 3, none⟩ (.bool t.b)).setCell ⟨B, ts.length * 6 + 4, none⟩ (.slice t.A t.xs.length t.c)).setCell ⟨B, ts.length * 6 + 5, none⟩ (.slice t.F t.vs.length t.d)) B lo L' (ts ++ [t]) := by
  have hb6 := (((((h.1.set_ (ts.length * 6) (.int .i64 t.k)).set_ (ts.length * 6 + 1) (.string t.s)).set_ (ts.length * 6 + 2) (.int .i64 t.n)).set_ (ts.length * 6 + 3) (.bool t.b)).set_ (ts.length * 6 + 4) (.slice t.A t.xs.length t.c)).set_ (ts.length * 6 + 5) (.slice t.F t.vs.length t.d)
  have ho : Only [B] w ((((((w.setCell ⟨B, ts.length * 6, none⟩ (.int .i64 t.k)).setCell ⟨B, ts.length * 6 + 1, none⟩ (.string t.s)).setCell ⟨B, ts.length * 6 + 2, none⟩ (.int .i64 t.n)).setCell ⟨B, ts.length * 6 + 3, none⟩ (.bool t.b)).setCell ⟨B, ts.length * 6 + 4, none⟩ (.slice t.A t.xs.length t.c)).setCell ⟨B, ts.length * 6 + 5, none⟩ (.slice t.F t.vs.length t.d)) :=
    ((((((Only.refl [B] w).setCell (.inl (by simp)) _).setCell (.inl (by simp)) _).setCell (.inl (by simp)) _).setCell (.inl (by simp)) _).setCell (.inl (by simp)) _).setCell (.inl (by simp)) _
  have keep : ∀ u : VT, u.In w (fun g => lo ≤ g ∧ g < w.heap.size) → u.In _ (fun g => lo ≤ g ∧ g < _) := fun u hu => hu.only ho (fun g hg => ⟨by simp; omega, hg.2⟩) (fun g hg => ⟨hg.1, Nat.lt_of_lt_of_le hg.2 ho.size⟩)
  refine ⟨_, ?_, hb6, fun i u hu => ?_⟩
  · simp only [List.length_set]; exact hl
  · rw [List.getElem?_append] at hu
    split at hu
    · rename_i hi
      refine ⟨fun j hj => ?_, keep u (h.2 i u hu).2⟩
      have := (h.2 i u hu).1 j hj
      rw [List.getElem?_set_ne (by omega), List.getElem?_set_ne (by omega), List.getElem?_set_ne (by omega), List.getElem?_set_ne (by omega), List.getElem?_set_ne (by omega), List.getElem?_set_ne (by omega)]
      exact this
    · rename_i hi
      have hi2 : i = ts.length := by
        have := (List.getElem?_eq_some_iff.1 hu).1
        simp at this
        omega
      subst hi2
      simp at hu
      subst hu
      refine ⟨fun j hj => ?_, keep _ ht⟩
      have hlen : ts.length * 6 + 5 < L.length := by rw [hl]; omega
      rcases (by omega : j = 0 ∨ j = 1 ∨ j = 2 ∨ j = 3 ∨ j = 4 ∨ j = 5) with rfl | rfl | rfl | rfl | rfl | rfl
      · rw [List.getElem?_set_ne (by omega), List.getElem?_set_ne (by omega), List.getElem?_set_ne (by omega), List.getElem?_set_ne (by omega), List.getElem?_set_ne (by omega), Nat.add_zero, List.getElem?_set_self (by omega)]; rfl
      · rw [List.getElem?_set_ne (by omega), List.getElem?_set_ne (by omega), List.getElem?_set_ne (by omega), List.getElem?_set_ne (by omega), List.getElem?_set_self (by simp; omega)]; rfl
      · rw [List.getElem?_set_ne (by omega), List.getElem?_set_ne (by omega), List.getElem?_set_ne (by omega), List.getElem?_set_self (by simp; omega)]; rfl
      · rw [List.getElem?_set_ne (by omega), List.getElem?_set_ne (by omega), List.getElem?_set_self (by simp; omega)]; rfl
      · rw [List.getElem?_set_ne (by omega), List.getElem?_set_self (by simp; omega)]; rfl
      · rw [List.getElem?_set_self (by simp; omega)]; rfl
/-- The list that a row of values makes. -/
theorem RowIs.tree {w : World} {B lo : Nat} {L : List Value} {ts : List VT} (h : RowIs w B lo L ts) (hlo : B < lo) (hc : ts.length * 88 ≤ 140737488351232) {Q : Nat → Prop} (hq : ∀ g, lo ≤ g ∧ g < w.heap.size → Q g) (hB : Q B) :
    (VT.mk 3 ByteArray.empty 0 false (some ⟨B, 0, none⟩) ts.length ts none 0 [] []).In w Q := by
  refine .mk _ (of_decide_eq_true rfl) (of_decide_eq_true rfl) (of_decide_eq_true rfl) ⟨Nat.le_refl _, ?_, ?_⟩ (of_decide_eq_true rfl) rfl (fun _ => ⟨B, 0, rfl, hB, fun i t ht => ?_⟩) (fun h => absurd h (Nat.lt_irrefl 0)) (fun t ht => ?_) (by intro x hx; cases hx) (by intro x hx; cases hx)
  · show ts.length ≤ maxLen; unfold maxLen; omega
  · show ts.length * 88 ≤ reachBytes; unfold reachBytes; exact hc
  · have hh := (h.2 i t ht).1
    refine ⟨?_, ?_, ?_, ?_, ?_, ?_⟩
    · rw [Nat.zero_add, h.1.cell]; have := hh 0 (by omega); rwa [Nat.add_zero] at this
    · rw [Nat.zero_add, h.1.cell]; exact hh 1 (by omega)
    · rw [Nat.zero_add, h.1.cell]; exact hh 2 (by omega)
    · rw [Nat.zero_add, h.1.cell]; exact hh 3 (by omega)
    · rw [Nat.zero_add, h.1.cell]; exact hh 4 (by omega)
    · rw [Nat.zero_add, h.1.cell]; exact hh 5 (by omega)
  · obtain ⟨i, hi, rfl⟩ := List.getElem_of_mem ht
    exact (h.2 i _ (List.getElem?_eq_getElem hi)).2.same hq fun _ _ _ => rfl

theorem plain_list (A : Option Addr) (n : Nat) (ts : List VT) : (VT.mk 3 ByteArray.empty 0 false A n ts none 0 [] []).plain = .mk 3 ByteArray.empty 0 false (ts.map VT.plain) [] [] := by
  rw [VT.plain_eq]; rfl
theorem zeroIn (w : World) (Q : Nat → Prop) : VT.zero.In w Q :=
  .mk _ (by decide) (by decide) (by decide) (by decide) (by decide) rfl (fun h => absurd h (by decide)) (fun h => absurd h (by decide)) (by intro x hx; cases hx) (by intro x hx; cases hx) (by intro x hx; cases hx)
theorem only6k (w : World) (g o : Nat) (v0 v1 v2 v3 v4 v5 : Value) :
    Only [g] w ((((((w.setCell ⟨g, o, none⟩ v0).setCell ⟨g, o + 1, none⟩ v1).setCell ⟨g, o + 2, none⟩ v2).setCell ⟨g, o + 3, none⟩ v3).setCell ⟨g, o + 4, none⟩ v4).setCell ⟨g, o + 5, none⟩ v5) :=
  ((((((Only.refl [g] w).setCell (.inl (by simp)) _).setCell (.inl (by simp)) _).setCell (.inl (by simp)) _).setCell (.inl (by simp)) _).setCell (.inl (by simp)) _).setCell (.inl (by simp)) _
theorem conv_list_none {A : Option Addr} {c : Nat} {xs : List AT} {k : Nat} {x : AT} (hx : xs[k]? = some x) (h : x.conv = none) : (AT.list A c xs).conv = none := by
  rw [AT.conv, AT.convL_none hx h]; rfl
theorem conv_list_some {A : Option Addr} {c : Nat} {xs : List AT} {ts : List VT} (hl : ts.length = xs.length) (h : ∀ (i : Nat) (x : AT), i < xs.length → xs[i]? = some x → x.conv = (ts[i]?).map VT.plain) (B : Option Addr) (n : Nat) :
    (AT.list A c xs).conv = some (VT.mk 3 ByteArray.empty 0 false B n ts none 0 [] []).plain := by
  have e : AT.convL xs = some (ts.map VT.plain) := AT.convL_some.2 ⟨by rw [List.length_map]; exact hl, fun i x hx => by rw [List.getElem?_map]; exact h i x (List.getElem?_eq_some_iff.1 hx).1 hx⟩
  rw [AT.conv, e, plain_list]; rfl
theorem conv_facts {w wr w2 : World} {t : VT} {L : List Value} {ts : List VT} (hb : Bel wr w2) (ht : t.In w2 (fun g => wr.heap.size ≤ g ∧ g < w2.heap.size)) (hz : Blk wr w.heap.size 34 VT.zero.cs) (hr : RowIs wr (w.heap.size + 1) (w.heap.size + 2) L ts) (hs : w.heap.size + 2 ≤ wr.heap.size) (o : Obj) :
    Bel wr (w2.alloc o) ∧ Blk (w2.alloc o) w.heap.size 34 VT.zero.cs ∧ RowIs (w2.alloc o) (w.heap.size + 1) (w.heap.size + 2) L ts ∧ t.In (w2.alloc o) (fun g => w.heap.size + 2 ≤ g ∧ g < (w2.alloc o).heap.size) ∧ w.heap.size + 2 ≤ (w2.alloc o).heap.size := by
  have hb2 : Bel wr (w2.alloc o) := hb.trans (Bel.alloc w2 o)
  have hsz := hb2.size
  refine ⟨hb2, hz.below hb2 hz.lt, hr.only (bel_only hb2) (by simp) (by simp), ?_, by omega⟩
  refine ht.only ((Only.refl [] w2).alloc o) (fun g hg => ⟨by simp, hg.2⟩) (fun g hg => ⟨?_, ?_⟩)
  · have := hg.1; omega
  · have h1 := hg.2
    have h2 : w2.heap.size ≤ (w2.alloc o).heap.size := (Bel.alloc w2 o).size
    omega
set_option maxRecDepth 100000 in
set_option maxHeartbeats 3200000 in
theorem convertList_c (A : Option Addr) (c : Nat) (xs : List AT) (d : Nat) (hd : d ≤ 65535) (w : World) (hI : (AT.list A c xs).In w (· < w.heap.size))
    (hE : ∀ x, x ∈ xs → ∀ W, Bel w W → Calls Tryd.prog 60 #[x.val, .int .i64 (d + 1)] W (CvR x W)) :
    Calls Tryd.prog 51 #[.slice A xs.length c, .int .i64 d] w (CvR (.list A c xs) w) := by
  obtain ⟨hc1, hc2, hc3⟩ : xs.length ≤ c ∧ c ≤ 9223372036854775807 ∧ xs.length * 88 ≤ 140737488351232 := by cases hI with | list _ _ _ hc _ _ => exact hc
  have hA : 0 < xs.length → ∃ g o, A = some ⟨g, o, none⟩ ∧ g < w.heap.size ∧ ∀ (i : Nat) (x : AT), xs[i]? = some x → w.cell? ⟨g, o + i, none⟩ = some x.val := by cases hI with | list _ _ _ _ hA _ => exact hA
  obtain ⟨n, hn⟩ : ∃ n, n = xs.length := ⟨_, rfl⟩
  rw [← hn] at hc1 hc3 hA ⊢
  obtain ⟨L0, hL0, hmk⟩ := make_cells (t := 31) Tryd.underlying31 info_value n n (Nat.le_refl _) (by omega) (by omega)
  have HADR := Lib.hid hA
  have HE := Lib.hid hE
  have HN := Lib.hid hn
  have HZ := Lib.hid ((Blk.new w 34 VT.zero.cs).alloc (.cells L0.toArray 34))
  have HM := Lib.hid (show Blk ((w.alloc (.cells VT.zero.cs.toArray 34)).alloc (.cells L0.toArray 34)) (w.heap.size + 1) 34 L0 from by
    have h1 := Blk.new (w.alloc (.cells VT.zero.cs.toArray 34)) 34 L0
    have e : (w.alloc (.cells VT.zero.cs.toArray 34)).heap.size = w.heap.size + 1 := by simp
    rw [e] at h1
    exact h1)
  have HW0 : Hid (Bel w ((w.alloc (.cells #[.int .i64 0, .string ByteArray.empty, .int .i64 0, .bool false, .slice none 0 0, .slice none 0 0] 34)).alloc (.cells L0.toArray 34))) := Lib.hid ((Bel.alloc _ _).trans (Bel.alloc _ _))
  have HSZ : Hid (((w.alloc (.cells #[.int .i64 0, .string ByteArray.empty, .int .i64 0, .bool false, .slice none 0 0, .slice none 0 0] 34)).alloc (.cells L0.toArray 34)).heap.size = w.heap.size + 2) := Lib.hid (by simp)
  have HL0 := Lib.hid hL0
  clear hI hE hA hL0 hn
  go_enter Tryd.func51, Tryd.ntmps51
  go_wp2_with fail
  go_loopw [16] (fun s16 wr => ∃ (k : Nat) (ts : List VT) (L : List Value), k ≤ n ∧ s16 = .int .i64 k ∧ ts.length = k ∧ Hid (L.length = n * 6) ∧ Hid (Bel w wr) ∧ Hid (Blk wr w.heap.size 34 VT.zero.cs) ∧ Hid (RowIs wr (w.heap.size + 1) (w.heap.size + 2) L ts) ∧ Hid (w.heap.size + 2 ≤ wr.heap.size) ∧
      Hid (∀ (i : Nat) (x : AT), i < k → xs[i]? = some x → x.conv = (ts[i]?).map VT.plain)) (fun s16 _ => n - (intOf s16).toNat)
  case atStart => exact ⟨0, [], L0, Nat.zero_le _, rfl, rfl, HL0, HW0, HZ, Lib.hid (RowIs.start HM.out), Lib.hid (Nat.le_of_eq HSZ.out.symm), Lib.hid (fun i x hi => absurd hi (Nat.not_lt_zero _))⟩
  case round =>
    obtain ⟨k, ts, L, hk, rfl, hts, HLL, HB, HZR, HROW, HS, HCV⟩ := hrel
    by_cases hlt : k < n
    · have hkx : k < xs.length := by have := HN.out; omega
      obtain ⟨g, o, hAA, hg, hcell⟩ := HADR.out (by omega)
      have hxk := List.getElem?_eq_getElem hkx
      have c0 := (HB.out.cell hg).trans (hcell k _ hxk)
      have HCALL := Lib.hid (HE.out _ (List.getElem_mem hkx) wr HB.out)
      have HXK := Lib.hid hxk
      rw [hAA]
      clear hcell hxk
      generalize xs[k] = x at *
      generalize x.val = v at c0 HCALL
      have hTS := Lib.hid hts
      clear hts
      have hll := HLL.out
      go_wp2_with (go_at_call 60; refine HCALL.out.mono ?_; rintro e w2 ⟨t, b, rfl, hb, ht, hcase⟩; obtain ⟨hb2, hz, hr, ht2, hs2⟩ := conv_facts hb ht HZR.out HROW.out HS.out (.cells #[.int .i64 t.k, .string t.s, .int .i64 t.n, .bool t.b, .slice t.A t.xs.length t.c, .slice t.F t.vs.length t.d] 34); have HB2 := Lib.hid (HB.out.trans hb2); have HT := Lib.hid ht2; have HCASE := Lib.hid hcase; have HZ2 := Lib.hid hz; have HR2 := Lib.hid hr; have HS2 := Lib.hid hs2; obtain ⟨z0, z1, z2, z3, z4, z5⟩ := cs_cells hz; have f0 := hz.free 0; have f1 := hz.free 1; have f2 := hz.free 2; have f3 := hz.free 3; have f4 := hz.free 4; have f5 := hz.free 5; have m0 := (hr.1.cell (k * 6)).trans (List.getElem?_eq_getElem (by omega)); have m1 := (hr.1.cell (k * 6 + 1)).trans (List.getElem?_eq_getElem (by omega)); have m2 := (hr.1.cell (k * 6 + 2)).trans (List.getElem?_eq_getElem (by omega)); have m3 := (hr.1.cell (k * 6 + 3)).trans (List.getElem?_eq_getElem (by omega)); have m4 := (hr.1.cell (k * 6 + 4)).trans (List.getElem?_eq_getElem (by omega)); have m5 := (hr.1.cell (k * 6 + 5)).trans (List.getElem?_eq_getElem (by omega)); have u0 := hr.1.free (k * 6); have u1 := hr.1.free (k * 6 + 1); have u2 := hr.1.free (k * 6 + 2); have u3 := hr.1.free (k * 6 + 3); have u4 := hr.1.free (k * 6 + 4); have u5 := hr.1.free (k * 6 + 5); clear hb ht hcase hz hr hb2 ht2 hs2)
      · have h9 : (!b) = true := by assumption
        have h8 : b = false := by simpa using h9
        subst h8
        have hn : x.conv = none := by
          rcases HCASE.out with ⟨h, _⟩ | ⟨_, h, _⟩
          · cases h
          · exact h
        refine bodyPost_ret (done2b (u := VT.zero) rfl rfl rfl (set6 HZ2.out _ _ _ _ _ _)) rfl ?_
        exact ⟨VT.zero, false, rfl, bel_on1 HB2.out (only6 _ _ _ _ _ _ _ _) (Nat.le_refl _), zeroIn _ _, .inr ⟨rfl, conv_list_none HXK.out hn, rfl⟩⟩
      · have h9 : (!b) = false := by assumption
        have h8 : b = true := by simpa using h9
        subst h8
        have hn : x.conv = some t.plain := by
          rcases HCASE.out with ⟨_, h⟩ | ⟨h, _⟩
          · exact h
          · cases h
        have e := hTS.out
        subst e
        obtain ⟨L', hl', hrow'⟩ := HR2.out.push (by omega) HLL.out hlt HT.out
        have HL' := Lib.hid hl'
        have HR' := Lib.hid hrow'
        clear hl' hrow' m0 m1 m2 m3 m4 m5 u0 u1 u2 u3 u4 u5 z0 z1 z2 z3 z4 z5 f0 f1 f2 f3 f4 f5 c0
        have HCV' : Hid (∀ (i : Nat) (x : AT), i < ts.length + 1 → xs[i]? = some x → x.conv = ((ts ++ [t])[i]?).map VT.plain) := Lib.hid (fun i y hi hy => by
          by_cases hi2 : i < ts.length
          · rw [List.getElem?_append_left hi2]; exact HCV.out i y hi2 hy
          · have e : i = ts.length := by omega
            subst e
            have := HXK.out.symm.trans hy
            injection this with this
            subst this
            rw [hn]; simp)
        go_roundw
        case rel => exact ⟨ts.length + 1, ts ++ [t], L', by omega, by go_num, by simp, HL', Lib.hid (bel_on1 HB2.out (only6k _ _ _ _ _ _ _ _ _) (by omega)), Lib.hid (HZ2.out.only (only6k _ _ _ _ _ _ _ _ _) (by simp)), HR', Lib.hid (Nat.le_trans HS2.out (only6k _ _ _ _ _ _ _ _ _).size), HCV'⟩
        case measure => simp [intOf]; omega
    · obtain rfl : n = k := by omega
      obtain ⟨z0, z1, z2, z3, z4, z5⟩ := cs_cells HZR.out
      have f0 := HZR.out.free 0; have f1 := HZR.out.free 1; have f2 := HZR.out.free 2; have f3 := HZR.out.free 3; have f4 := HZR.out.free 4; have f5 := HZR.out.free 5
      go_wp2_with fail
      subst hts
      have hq : ∀ g, w.heap.size + 2 ≤ g ∧ g < wr.heap.size → w.heap.size + 1 ≤ g ∧ g < wr.heap.size := fun g hg => ⟨by omega, hg.2⟩
      have htree := HROW.out.tree (by omega) hc3 (Q := fun g => w.heap.size + 1 ≤ g ∧ g < wr.heap.size) hq ⟨Nat.le_refl _, by have := HS.out; omega⟩
      refine bodyPost_ret (done2b (u := VT.mk 3 ByteArray.empty 0 false (some ⟨w.heap.size + 1, 0, none⟩) ts.length ts none 0 [] []) rfl rfl rfl (set6 HZR.out _ _ _ _ _ _)) rfl ?_
      exact ⟨_, true, rfl, bel_on1 HB.out (only6 _ _ _ _ _ _ _ _) (Nat.le_refl _), htree.only (only6 _ _ _ _ _ _ _ _) (fun g hg => ⟨by have := hg.1; simp; omega, hg.2⟩) (fun g hg => ⟨by have := hg.1; omega, Nat.lt_of_lt_of_le hg.2 (only6 _ _ _ _ _ _ _ _).size⟩), .inl ⟨rfl, conv_list_some HN.out (fun i x hi hx => HCV.out i x (by have := HN.out; omega) hx) _ _⟩⟩
end Go.Proofs.YtmgnomahnndeaaaDoor
