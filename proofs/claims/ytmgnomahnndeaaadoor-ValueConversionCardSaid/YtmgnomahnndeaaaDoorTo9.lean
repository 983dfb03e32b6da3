/-
  Contract: toSlice.
-/
import Derived.Test.YtmgnomahnndeaaaDoorFrom9
namespace Go.Proofs.YtmgnomahnndeaaaDoor
open Go.RowKit Go.BigFrame Go.Maps Go.WideMaps
set_option linter.unusedVariables false
set_option linter.unusedSimpArgs false
theorem Holds_only {w w' : World} {S : List Nat} {B : Nat} {ks : List ByteArray} {vs : List AT} (h : AT.Holds w B ks vs) (ho : Only S w w') (hB : B ∉ S) : AT.Holds w' B ks vs := by
  obtain ⟨n, D, h1, h2⟩ := h
  have hlt := h1.lt
  obtain ⟨es, clock, e, F, hs, hD⟩ := h1
  exact ⟨n, D, ⟨es, clock, (ho.block B hlt hB).trans e, F, hs, hD⟩, h2⟩
theorem AT.In.only {w w' : World} {Q Q' : Nat → Prop} {S : List Nat} {a : AT} (h : a.In w Q) (ho : Only S w w') (hS : ∀ g, Q g → g ∉ S ∧ g < w.heap.size) (hq : ∀ g, Q g → Q' g) : a.In w' Q' := by
  induction h with
  | bad v h => exact .bad v h
  | str s h => exact .str s h
  | int n h => exact .int n h
  | i64 n h => exact .i64 n h
  | bool b => exact .bool b
  | list A c xs hc hA _ ih =>
    refine .list A c xs hc (fun h0 => ?_) ih
    obtain ⟨g, o, e, hg, hi⟩ := hA h0
    exact ⟨g, o, e, hq g hg, fun i x hx => (only_cell ho (hS g hg).2 (hS g hg).1).trans (hi i x hx)⟩
  | map B ks vs hB hl hn hc hm hks _ ih => exact .map B ks vs (hq B hB) hl hn hc (Holds_only hm ho (hS B hB).1) hks ih
/-- What To gives: a value with blocks of its own, which converts to the sorted one. -/
def ToR (m : Nat) (t : VT) (w : World) (e : Ending) (w' : World) : Prop :=
  ∃ a : AT, e = .returned a.val ∧ Bel w w' ∧ a.In w' (fun g => w.heap.size ≤ g ∧ g < w'.heap.size) ∧ a.hle m ∧ a.conv = some t.plain.sort
/-- What toSlice gives. -/
def SlR (m : Nat) (xs : List VT) (w : World) (e : Ending) (w' : World) : Prop :=
  ∃ (A : Option Addr) (c : Nat) (us : List AT), e = .returned (.slice A us.length c) ∧ Bel w w' ∧ (AT.list A c us).In w' (fun g => w.heap.size ≤ g ∧ g < w'.heap.size) ∧ (∀ a, a ∈ us → a.hle m) ∧ us.length = xs.length ∧
    ∀ (i : Nat) (a : AT), us[i]? = some a → a.conv = (xs[i]?).map fun t => t.plain.sort
theorem val_iface {a : AT} {p : PV} (h : a.conv = some p) : ∃ (T : TypeId) (y : Value), a.val = .iface T y := by
  cases a with
  | bad v => rw [AT.conv] at h; cases h
  | str s => exact ⟨_, _, rfl⟩
  | int n => exact ⟨_, _, rfl⟩
  | i64 n => exact ⟨_, _, rfl⟩
  | bool b => exact ⟨_, _, rfl⟩
  | list A c xs => exact ⟨_, _, rfl⟩
  | map B ks vs => exact ⟨_, _, rfl⟩
theorem only_set {w : World} {g o : Nat} {v : Value} : Only [g] w (w.setCell ⟨g, o, none⟩ v) := (Only.refl [g] w).setCell (.inl (by simp)) _
set_option maxRecDepth 100000 in
set_option maxHeartbeats 800000 in
theorem toSlice_c (m : Nat) (A : Option Addr) (c : Nat) (xs : List VT) (w : World) (hc : xs.length ≤ c ∧ c ≤ maxLen ∧ xs.length * 88 ≤ reachBytes)
    (hA : 0 < xs.length → ∃ g o, A = some ⟨g, o, none⟩ ∧ g < w.heap.size ∧ ∀ i (x : VT), xs[i]? = some x → x.Cells w g (o + i * 6))
    (hE : ∀ x, x ∈ xs → ∀ W, Bel w W → Calls Tryd.prog 25 #[.agg #[.int .i64 x.k, .string x.s, .int .i64 x.n, .bool x.b, .slice x.A x.xs.length x.c, .slice x.F x.vs.length x.d]] W (ToR m x W)) :
    Calls Tryd.prog 44 #[.slice A xs.length c] w (SlR m xs w) := by
  obtain ⟨hc1, hc2, hc3⟩ : xs.length ≤ c ∧ c ≤ 9223372036854775807 ∧ xs.length * 88 ≤ 140737488351232 := hc
  obtain ⟨n, hn⟩ : ∃ n, n = xs.length := ⟨_, rfl⟩
  rw [← hn] at hc1 hc3 hA ⊢
  obtain ⟨L0, hL0, hmk⟩ := make_cells (t := 53) Tryd.underlying53 info_any n n (Nat.le_refl _) (by omega) (by omega)
  have HADR := Lib.hid hA
  have HE := Lib.hid hE
  have HN := Lib.hid hn
  have HM := Lib.hid (show Blk (w.alloc (.cells L0.toArray 20)) w.heap.size 20 L0 from Blk.new w 20 L0)
  have HW0 : Hid (Bel w (w.alloc (.cells L0.toArray 20))) := Lib.hid (Bel.alloc _ _)
  have HL0 := Lib.hid hL0
  clear hE hA hL0 hn
  go_enter Tryd.func44, Tryd.ntmps44
  go_wp2_with fail
  go_loopw [11] (fun s11 wr => ∃ (k : Nat) (us : List AT) (L : List Value), k ≤ n ∧ s11 = .int .i64 k ∧ us.length = k ∧ Hid (L.length = n * 1) ∧ Hid (Bel w wr) ∧ Hid (w.heap.size < wr.heap.size) ∧ Hid (Blk wr w.heap.size 20 L) ∧
      Hid (∀ (i : Nat) (a : AT), us[i]? = some a → L[i]? = some a.val ∧ a.In wr (fun g => w.heap.size + 1 ≤ g ∧ g < wr.heap.size) ∧ a.hle m ∧ a.conv = (xs[i]?).map fun t => t.plain.sort)) (fun s11 _ => n - (intOf s11).toNat)
  case atStart => exact ⟨0, [], L0, Nat.zero_le _, rfl, rfl, HL0, HW0, Lib.hid (by simp), HM, Lib.hid (fun i a hi => by simp at hi)⟩
  case round =>
    obtain ⟨k, us, L, hk, rfl, hts, HLL, HB, HSZ, HROW, HAS⟩ := hrel
    by_cases hlt : k < n
    · have hkx : k < xs.length := by have := HN.out; omega
      obtain ⟨g, o, hAA, hg, hcell⟩ := HADR.out (by omega)
      have hxk := List.getElem?_eq_getElem hkx
      obtain ⟨c0, c1, c2, c3, c4, c5⟩ := hcell k _ hxk
      have c0 := (HB.out.cell hg).trans c0
      have c1 := (HB.out.cell hg).trans c1
      have c2 := (HB.out.cell hg).trans c2
      have c3 := (HB.out.cell hg).trans c3
      have c4 := (HB.out.cell hg).trans c4
      have c5 := (HB.out.cell hg).trans c5
      have hE1 := HE.out _ (List.getElem_mem hkx)
      have HXK := Lib.hid hxk
      rw [hAA]
      clear hcell hxk
      generalize xs[k] = x at *
      have HB1 : Hid (Bel w (wr.alloc (.cells #[.int .i64 x.k, .string x.s, .int .i64 x.n, .bool x.b, .slice x.A x.xs.length x.c, .slice x.F x.vs.length x.d] 34))) := Lib.hid (HB.out.trans (Bel.alloc _ _))
      have HCALL := Lib.hid (hE1 _ HB1.out)
      have HTS := Lib.hid hts
      clear hts hE1
      have hll := HLL.out
      go_wp2_with (go_at_call 25; refine HCALL.out.mono ?_; rintro e w2 ⟨a, rfl, hb, ha, hh, hcv⟩; obtain ⟨T, y, hy⟩ := val_iface hcv; rw [hy]; have HY := Lib.hid hy; have HB2 := Lib.hid ((Bel.alloc _ _).trans hb); have HIN := Lib.hid ha; have HH := Lib.hid hh; have HCV := Lib.hid hcv; have HR2 := Lib.hid (HROW.out.below HB2.out HROW.out.lt); have m0 := (HR2.out.cell k).trans (List.getElem?_eq_getElem (by omega)); have u0 := HR2.out.free k; clear hb ha hh hcv hy)
      have HS2 := Lib.hid (HR2.out.set_ k (.iface T y))
      have HB3 := Lib.hid (bel_on1 (HB.out.trans HB2.out) (only_set (w := w2) (g := w.heap.size) (o := k) (v := .iface T y)) (Nat.le_refl _))
      have HSZ2 : Hid (w.heap.size < w2.heap.size) := Lib.hid (Nat.lt_of_lt_of_le HSZ.out HB2.out.size)
      have HSW : Hid (wr.heap.size ≤ w2.heap.size) := Lib.hid HB2.out.size
      have HAS' : Hid (∀ (i : Nat) (b : AT), (us ++ [a])[i]? = some b → (L.set k (.iface T y))[i]? = some b.val ∧ b.In (w2.setCell ⟨w.heap.size, k, none⟩ (.iface T y)) (fun g => w.heap.size + 1 ≤ g ∧ g < (w2.setCell ⟨w.heap.size, k, none⟩ (.iface T y)).heap.size) ∧ b.hle m ∧ b.conv = (xs[i]?).map fun t => t.plain.sort) := Lib.hid (fun i b hb => by
        have hto := (only_set (w := w2) (g := w.heap.size) (o := k) (v := .iface T y))
        have htl := HTS.out
        have hsz := HSZ.out
        have hsw := HSW.out
        by_cases hi2 : i < us.length
        · rw [List.getElem?_append_left hi2] at hb
          obtain ⟨h1, h2, h3, h4⟩ := HAS.out i b hb
          refine ⟨by rw [List.getElem?_set_ne (by omega)]; exact h1, (h2.only (bel_only HB2.out) (fun g hg => ⟨by simp, hg.2⟩) (Q' := fun g => w.heap.size + 1 ≤ g ∧ g < w2.heap.size) (fun g hg => ⟨hg.1, by omega⟩)).only hto (fun g hg => ⟨by simp; omega, hg.2⟩) (fun g hg => ⟨hg.1, Nat.lt_of_lt_of_le hg.2 hto.size⟩), h3, h4⟩
        · have e : i = us.length := by
            have := (List.getElem?_eq_some_iff.1 hb).1
            simp at this
            omega
          rw [e] at hb ⊢
          simp at hb
          subst hb
          refine ⟨by rw [htl, List.getElem?_set_self (by have := HLL.out; omega), HY.out], HIN.out.only hto (fun g hg => ⟨by simp at hg ⊢; omega, hg.2⟩) (fun g hg => ⟨by simp at hg; omega, Nat.lt_of_lt_of_le hg.2 hto.size⟩), HH.out, ?_⟩
          rw [htl, HXK.out]
          exact HCV.out)
      clear m0 u0 c0 c1 c2 c3 c4 c5
      go_roundw
      case rel => exact ⟨k + 1, us ++ [a], L.set k (.iface T y), by omega, by go_num, by rw [List.length_append, HTS.out]; rfl, Lib.hid (by rw [List.length_set]; exact HLL.out), HB3, Lib.hid (Nat.lt_of_lt_of_le HSZ2.out (only_set (w := w2) (g := w.heap.size) (o := k) (v := .iface T y)).size), HS2, HAS'⟩
      case measure => simp [intOf]; omega
    · obtain rfl : n = k := by omega
      go_wp2_with fail
      go_ret
      have hul : us.length = xs.length := hts.trans HN.out
      refine ⟨some ⟨w.heap.size, 0, none⟩, n, us, by rw [hts]; try rfl, HB.out, .list _ _ _ ⟨by omega, by omega, by omega⟩ (fun _ => ⟨w.heap.size, 0, rfl, ⟨Nat.le_refl _, HSZ.out⟩, fun i a ha => ?_⟩) (fun a ha => ?_), fun a ha => ?_, hul, fun i a ha => (HAS.out i a ha).2.2.2⟩
      · rw [Nat.zero_add, HROW.out.cell]; exact (HAS.out i a ha).1
      · obtain ⟨i, hi, rfl⟩ := List.getElem_of_mem ha
        exact (HAS.out i _ (List.getElem?_eq_getElem hi)).2.1.only (Only.refl [] _) (fun g hg => ⟨by simp, hg.2⟩) (fun g hg => ⟨by omega, hg.2⟩)
      · obtain ⟨i, hi, rfl⟩ := List.getElem_of_mem ha
        exact (HAS.out i _ (List.getElem?_eq_getElem hi)).2.2.1
end Go.Proofs.YtmgnomahnndeaaaDoor
