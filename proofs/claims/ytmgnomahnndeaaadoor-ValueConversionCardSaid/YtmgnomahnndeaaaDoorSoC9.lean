/-
  Contract: the reference's Sorted.
-/
import Derived.Test.YtmgnomahnndeaaaDoorSoT9
import Derived.Test.YtmgnomahnndeaaaDoorIns
import Derived.Deep.DeepCutAuto
import Derived.Deep.CutBlock
namespace Go.Proofs.YtmgnomahnndeaaaDoor
open Go.RowKit Go.BigFrame Go.Maps Go.WideMaps
set_option linter.unusedVariables false
set_option linter.unusedSimpArgs false
attribute [local go_sem ↓] sliced_cut
attribute [local go_sem] cutA_zero
theorem csLen (t : VT) : t.cs.length = 6 := rfl
theorem csOne (t : VT) (u : Value) (h : u ∈ t.cs) : u.oneCell' = true := by
  simp only [VT.cs, List.mem_cons, List.not_mem_nil, or_false] at h
  rcases h with rfl | rfl | rfl | rfl | rfl | rfl <;> rfl
theorem cells_value : (Value.agg #[.int .i64 0, .string ByteArray.empty, .int .i64 0, .bool false, .slice none 0 0, .slice none 0 0]).cells.size = 6 := by kernel_rfl
/-- What Sorted gives. -/
def SoR (t : VT) (w : World) (e : Ending) (w' : World) : Prop :=
  ∃ u : VT, e = .returned (.agg #[.int .i64 u.k, .string u.s, .int .i64 u.n, .bool u.b, .slice u.A u.xs.length u.c, .slice u.F u.vs.length u.d]) ∧ Bel w w' ∧ u.In w' (fun g => w.heap.size ≤ g ∧ g < w'.heap.size) ∧ u.plain = t.plain.sort
/-- Trees beside a row that grows. -/
def Beside (w : World) (lo : Nat) (A : Option Addr) (us : List VT) : Prop := (∀ g, g ∈ rowT A → lo ≤ g) ∧ ∀ u, u ∈ us → u.In w (fun g => lo ≤ g ∧ g < w.heap.size ∧ g ∉ rowT A)
theorem Beside.bel {w w' : World} {lo : Nat} {A : Option Addr} {us : List VT} (h : Beside w lo A us) (hb : Bel w w') : Beside w' lo A us :=
  ⟨h.1, fun u hu => (h.2 u hu).only (bel_only hb) (fun g hg => ⟨by simp, hg.2.1⟩) (fun g hg => ⟨hg.1, Nat.lt_of_lt_of_le hg.2.1 hb.size, hg.2.2⟩)⟩
theorem Beside.push {w w' : World} {lo : Nat} {A : Option Addr} {us : List VT} {t : VT} (h : Beside w lo A us) (hlt : ∀ g, g ∈ rowT A → g < w.heap.size) (hb : Bel w w') (ht : t.In w' (fun g => w.heap.size ≤ g ∧ g < w'.heap.size)) (hlo : lo ≤ w.heap.size) : Beside w' lo A (us ++ [t]) := by
  refine ⟨h.1, fun u hu => ?_⟩
  rcases List.mem_append.1 hu with hu | hu
  · exact (h.bel hb).2 u hu
  · simp only [List.mem_singleton] at hu
    subst hu
    exact ht.only (Only.refl [] _) (fun g hg => ⟨by simp, hg.2⟩) (fun g hg => ⟨by have := hg.1; omega, hg.2, fun hr => by have h1 := hlt g hr; have h2 := hg.1; omega⟩)
theorem Beside.grow {w w' : World} {lo : Nat} {A A2 : Option Addr} {us : List VT} (h : Beside w lo A us) (ho : Only (rowT A) w w') (hk : ∀ k, k ∈ rowT A2 → k ∈ rowT A ∨ k = w.heap.size) (hlo : lo ≤ w.heap.size) : Beside w' lo A2 us := by
  refine ⟨fun g hg => ?_, fun u hu => (h.2 u hu).only ho (fun g hg => ⟨hg.2.2, hg.2.1⟩) (fun g hg => ⟨hg.1, Nat.lt_of_lt_of_le hg.2.1 ho.size, fun hr => ?_⟩)⟩
  · rcases hk g hg with h1 | rfl
    · exact h.1 g h1
    · exact hlo
  · rcases hk g hr with h1 | h1
    · exact hg.2.2 h1
    · have := hg.2.1; omega
theorem Only7 (w : World) (g : Nat) (v0 v1 v2 v3 v4 v5 v6 : Value) :
    Only [g] w (((((((w.setCell ⟨g, 0, none⟩ v0).setCell ⟨g, 1, none⟩ v1).setCell ⟨g, 2, none⟩ v2).setCell ⟨g, 3, none⟩ v3).setCell ⟨g, 4, none⟩ v4).setCell ⟨g, 5, none⟩ v5).setCell ⟨g, 6, none⟩ v6) :=
  (((((((Only.refl [g] w).setCell (.inl (by simp)) _).setCell (.inl (by simp)) _).setCell (.inl (by simp)) _).setCell (.inl (by simp)) _).setCell (.inl (by simp)) _).setCell (.inl (by simp)) _).setCell (.inl (by simp)) _
theorem set7 {w : World} {g : Nat} {T : TypeId} {a0 a1 a2 a3 a4 a5 a6 : Value} (h : Blk w g T [a0, a1, a2, a3, a4, a5, a6]) (v0 v1 v2 v3 v4 v5 v6 : Value) :
    Blk (((((((w.setCell ⟨g, 0, none⟩ v0).setCell ⟨g, 1, none⟩ v1).setCell ⟨g, 2, none⟩ v2).setCell ⟨g, 3, none⟩ v3).setCell ⟨g, 4, none⟩ v4).setCell ⟨g, 5, none⟩ v5).setCell ⟨g, 6, none⟩ v6) g T [v0, v1, v2, v3, v4, v5, v6] :=
  ((((((h.set_ 0 v0).set_ 1 v1).set_ 2 v2).set_ 3 v3).set_ 4 v4).set_ 5 v5).set_ 6 v6
theorem bl_eq : ∀ x y : List UInt8, Op.bytesLess x y = decide (x < y)
  | x, [] => by cases x <;> simp [Op.bytesLess]
  | [], b :: y => by simp [Op.bytesLess]
  | a :: x, b :: y => by
    rw [Op.bytesLess, bl_eq x y, Bool.eq_iff_iff]
    simp [List.cons_lt_cons_iff]
theorem key_gt {p key : ByteArray} (h : (!Op.bytesLess p.toList key.toList) = true ∧ (!(p.toList == key.toList)) = true) : kL key ≤ kL p := by
  have h1 := h.1
  rw [bl_eq, ByteArray.toList_eq, ByteArray.toList_eq] at h1
  simp at h1
  exact h1
theorem key_le {p key : ByteArray} (h : (!Op.bytesLess p.toList key.toList) = false ∨ (!(p.toList == key.toList)) = false) : kL p ≤ kL key := by
  rcases h with h | h
  · rw [bl_eq, ByteArray.toList_eq, ByteArray.toList_eq] at h
    simp at h
    exact List.le_of_lt h
  · rw [toList_beq] at h
    simp at h
    rw [h]
    exact List.le_refl _
theorem src_new1 (w1 : World) (key : ByteArray) (y : VT) : Src (w1.alloc (.cells #[.string key, .int .i64 y.k, .string y.s, .int .i64 y.n, .bool y.b, .slice y.A y.xs.length y.c, .slice y.F y.vs.length y.d] 57)) 7 fF (some ⟨w1.heap.size, 0, none⟩) [(key, y)] := by
  have h := src_blk (z := 7) (m := [(key, y)]) (Blk.new w1 57 (fcs key y)) (flat_one (f := fF) (key, y)).symm
  exact h
/-- The fields so far, in order. -/
def Ord (t : VT) (fs : List (ByteArray × VT)) (k : Nat) : Prop :=
  (fs.map fun p => (p.1, p.2.plain)).Perm ((t.ks.zip (t.vs.map fun x => x.plain.sort)).take k) ∧ fs.Pairwise fun p q => kL p.1 ≤ kL q.1
theorem Ord.start (t : VT) : Ord t [] 0 := ⟨by simp, List.Pairwise.nil⟩
/-- Sorted's end. -/
theorem sorted_done {w wB wr W : World} {t : VT} (hI : t.In w (· < w.heap.size)) {A AF : Option Addr} {c cF m : Nat} {us : List VT} {fs : List (ByteArray × VT)} (hBW : Bel w wr) (hB2 : Bel wB wr) (hn : us.length = t.xs.length) (hnf : fs.length = t.vs.length) (hm : m = t.vs.length)
    (hkl : t.ks.length = t.vs.length) (hnd : t.ks.Nodup) (hs : w.heap.size + 2 ≤ wB.heap.size) (hrow : KRow wB 34 6 VT.cs A c us) (hbe : Beside wB (w.heap.size + 2) A us)
    (hpl : ∀ (i : Nat) (u : VT), us[i]? = some u → some u.plain = (t.xs[i]?).map fun t => t.plain.sort) (hfr : KRow wr 57 7 fF AF cF fs) (hfb : Beside wr wB.heap.size AF (fs.map (·.2))) (hord : Ord t fs m)
    (ho : Only [w.heap.size, w.heap.size + 1] wr W) :
    SoR t w (.returned (.agg #[.int .i64 t.k, .string t.s, .int .i64 t.n, .bool t.b, .slice A us.length c, .slice AF (fs.map (·.2)).length cF])) W := by
  have hno : ∀ g, w.heap.size + 2 ≤ g → g ∉ [w.heap.size, w.heap.size + 1] := fun g hg hm => by simp at hm; omega
  have hz := ho.size
  refine ⟨.mk t.k t.s t.n t.b A c us AF cF (fs.map (·.1)) (fs.map (·.2)), rfl, bel_on hBW ho (fun k hk => by simp at hk; omega), ?_, ?_⟩
  · refine sorted_in hI hn hnf ((hrow.only (bel_only hB2) (by simp)).only ho (fun k hk => hno k (hbe.1 k hk))) (fun g hg => by have := hbe.1 g hg; omega)
      (fun u hu => ((hbe.bel hB2).2 u hu).only ho (fun g hg => ⟨hno g hg.1, hg.2.1⟩) (fun g hg => ⟨by have := hg.1; omega, Nat.lt_of_lt_of_le hg.2.1 hz⟩))
      (hfr.only ho (fun k hk => hno k (Nat.le_trans hs (hfb.1 k hk)))) (fun g hg => by have := hfb.1 g hg; omega)
      (fun u hu => (hfb.2 u hu).only ho (fun g hg => ⟨hno g (Nat.le_trans hs hg.1), hg.2.1⟩) (fun g hg => ⟨by have := hg.1; omega, Nat.lt_of_lt_of_le hg.2.1 hz⟩)) (fun key hkey => ?_)
    obtain ⟨p, hp, rfl⟩ := List.mem_map.1 hkey
    have h1 := hord.1.mem_iff.1 (List.mem_map_of_mem (f := fun p : ByteArray × VT => (p.1, p.2.plain)) hp)
    exact (List.of_mem_zip (List.mem_of_mem_take h1)).1
  · refine sorted_plain hn hpl (sorted_fields hkl hnd ?_ hord.2)
    have h1 := hord.1
    rwa [List.take_of_length_le (by rw [List.length_zip, List.length_map]; omega)] at h1
set_option maxRecDepth 100000 in
set_option maxHeartbeats 3200000 in
theorem sorted_step (m : Nat) (ih : ∀ (t : VT) (d : Nat), d + m = 33 → t.plain.ok d → ∀ w : World, t.In w (· < w.heap.size) →
      Calls Tryd.prog 26 #[.agg #[.int .i64 t.k, .string t.s, .int .i64 t.n, .bool t.b, .slice t.A t.xs.length t.c, .slice t.F t.vs.length t.d]] w (SoR t w))
    (t : VT) (d : Nat) (hd : d + (m + 1) = 33) (h : t.plain.ok d) (w : World) (hI : t.In w (· < w.heap.size)) :
    Calls Tryd.prog 26 #[.agg #[.int .i64 t.k, .string t.s, .int .i64 t.n, .bool t.b, .slice t.A t.xs.length t.c, .slice t.F t.vs.length t.d]] w (SoR t w) := by
  obtain ⟨h1, h2, h3, h4, h5, h6, h7, h8, h9, h10, h11⟩ := ok_parts h
  obtain ⟨hby1, hby2⟩ := hI.bytes
  have HI := Lib.hid hI
  have HX := Lib.hid (fun (x : VT) (hx : x ∈ t.xs) (W : World) (hb : Bel w W) => ih x (d + 1) (by omega) (h10 x hx) W (by cases hI.bel hb with | mk _ _ _ _ _ _ _ _ _ hx' _ _ => exact hx' x hx))
  have HV := Lib.hid (fun (x : VT) (hx : x ∈ t.vs) (W : World) (hb : Bel w W) => ih x (d + 1) (by omega) (h11 x hx) W (by cases hI.bel hb with | mk _ _ _ _ _ _ _ _ _ _ hv' _ => exact hv' x hx))
  have HND := Lib.hid h9
  have HKL := Lib.hid h8
  have HA : Hid (0 < t.xs.length → ∃ g o, t.A = some ⟨g, o, none⟩ ∧ g < w.heap.size ∧ ∀ i (x : VT), t.xs[i]? = some x → x.Cells w g (o + i * 6)) := Lib.hid (by cases hI with | mk _ _ _ _ _ _ _ hA _ _ _ _ => exact hA)
  have HF : Hid (0 < t.vs.length → ∃ g o, t.F = some ⟨g, o, none⟩ ∧ g < w.heap.size ∧ ∀ i (x : VT) key, t.ks[i]? = some key → t.vs[i]? = some x → w.cell? ⟨g, o + i * 7, none⟩ = some (.string key) ∧ x.Cells w g (o + i * 7 + 1)) := Lib.hid (by cases hI with | mk _ _ _ _ _ _ _ _ hF _ _ _ => exact hF)
  have HT := Lib.hid (rfl : t = t)
  obtain ⟨hc1, hc2, hc3⟩ : t.xs.length ≤ t.c ∧ t.c ≤ 9223372036854775807 ∧ t.xs.length * 88 ≤ 140737488351232 := by cases hI with | mk _ _ _ _ hc _ _ _ _ _ _ _ => exact hc
  obtain ⟨hd1, hd2, hd3⟩ : t.vs.length ≤ t.d ∧ t.d ≤ 9223372036854775807 ∧ t.vs.length * 104 ≤ 140737488351232 := by cases hI with | mk _ _ _ _ _ hc _ _ _ _ _ _ => exact hc
  clear ih h h1 h2 h3 h4 h5 h6 h7 h8 h9 h10 h11 hI hby1 hby2 HT
  obtain ⟨n, hn⟩ : ∃ n, n = t.xs.length := ⟨_, rfl⟩
  obtain ⟨nf, hnf⟩ : ∃ nf, nf = t.vs.length := ⟨_, rfl⟩
  rw [← hn] at hc1 hc3 HA ⊢
  rw [← hnf] at hd1 hd3 HF HKL ⊢
  have HN := Lib.hid hn
  have HNF := Lib.hid hnf
  have HV0 : Hid (Blk ((w.alloc (.cells #[.int .i64 t.k, .string t.s, .int .i64 t.n, .bool t.b, .slice t.A n t.c, .slice t.F nf t.d] 34)).alloc (.cells #[.int .i64 0, .string ByteArray.empty, .int .i64 0, .bool false, .slice none 0 0, .slice none 0 0] 34)) w.heap.size 34 [.int .i64 t.k, .string t.s, .int .i64 t.n, .bool t.b, .slice t.A n t.c, .slice t.F nf t.d]) := Lib.hid ((Blk.new w 34 _).alloc _)
  have HZ0 : Hid (Blk ((w.alloc (.cells #[.int .i64 t.k, .string t.s, .int .i64 t.n, .bool t.b, .slice t.A n t.c, .slice t.F nf t.d] 34)).alloc (.cells #[.int .i64 0, .string ByteArray.empty, .int .i64 0, .bool false, .slice none 0 0, .slice none 0 0] 34)) (w.heap.size + 1) 34 VT.zero.cs) := Lib.hid (by
    have h := Blk.new (w.alloc (.cells #[.int .i64 t.k, .string t.s, .int .i64 t.n, .bool t.b, .slice t.A n t.c, .slice t.F nf t.d] 34)) 34 VT.zero.cs
    rwa [show (w.alloc (.cells #[.int .i64 t.k, .string t.s, .int .i64 t.n, .bool t.b, .slice t.A n t.c, .slice t.F nf t.d] 34)).heap.size = w.heap.size + 1 by simp] at h)
  have HW0 : Hid (Bel w ((w.alloc (.cells #[.int .i64 t.k, .string t.s, .int .i64 t.n, .bool t.b, .slice t.A n t.c, .slice t.F nf t.d] 34)).alloc (.cells #[.int .i64 0, .string ByteArray.empty, .int .i64 0, .bool false, .slice none 0 0, .slice none 0 0] 34))) := Lib.hid ((Bel.alloc _ _).trans (Bel.alloc _ _))
  have HS0 : Hid (w.heap.size + 2 ≤ ((w.alloc (.cells #[.int .i64 t.k, .string t.s, .int .i64 t.n, .bool t.b, .slice t.A n t.c, .slice t.F nf t.d] 34)).alloc (.cells #[.int .i64 0, .string ByteArray.empty, .int .i64 0, .bool false, .slice none 0 0, .slice none 0 0] 34)).heap.size) := Lib.hid (by simp)
  clear hn hnf
  go_enter Tryd.func26, Tryd.ntmps26
  go_wp2_with fail
  go_loopw [3, 4] (fun s3 s4 wr => ∃ (k : Nat) (us : List VT) (A : Option Addr) (c : Nat), k ≤ n ∧ s4 = .int .i64 k ∧ s3 = .slice A k c ∧ Hid (us.length = k) ∧ Hid (Bel w wr) ∧ Hid (w.heap.size + 2 ≤ wr.heap.size) ∧
      Hid (Blk wr w.heap.size 34 [.int .i64 t.k, .string t.s, .int .i64 t.n, .bool t.b, .slice t.A n t.c, .slice t.F nf t.d]) ∧ Hid (Blk wr (w.heap.size + 1) 34 VT.zero.cs) ∧
      Hid (KRow wr 34 6 VT.cs A c us) ∧ Hid (Beside wr (w.heap.size + 2) A us) ∧ Hid (∀ (i : Nat) (u : VT), us[i]? = some u → some u.plain = (t.xs[i]?).map fun t => t.plain.sort)) (fun s3 s4 _ => n - (intOf s4).toNat)
  case atStart => exact ⟨0, [], none, 0, Nat.zero_le _, rfl, rfl, Lib.hid rfl, HW0, HS0, HV0, HZ0, Lib.hid (KRow.nil _ _ _ _), Lib.hid ⟨by simp [rowT], by intro u hu; cases hu⟩, Lib.hid (by intro i u hu; simp at hu)⟩
  case round =>
    obtain ⟨k, us, A, c, hk, rfl, rfl, HUL, HB, HS, HVB, HZB, HROW, HBE, HPL⟩ := hrel
    have z4 := HVB.out.cell 4
    have z5 := HVB.out.cell 5
    by_cases hlt : k < n
    · have hkx : k < t.xs.length := by have := HN.out; omega
      obtain ⟨g, o, hAA, hg, hcell⟩ := HA.out (by omega)
      have hxk := List.getElem?_eq_getElem hkx
      obtain ⟨c0, c1, c2, c3, c4, c5⟩ := hcell k _ hxk
      have c0 := (HB.out.cell hg).trans c0
      have c1 := (HB.out.cell hg).trans c1
      have c2 := (HB.out.cell hg).trans c2
      have c3 := (HB.out.cell hg).trans c3
      have c4 := (HB.out.cell hg).trans c4
      have c5 := (HB.out.cell hg).trans c5
      have hE1 := HX.out _ (List.getElem_mem hkx)
      have HXK := Lib.hid hxk
      rw [hAA] at z4
      clear hcell hxk hAA
      generalize t.xs[k] = x at *
      have HCALL := Lib.hid (hE1 _ HB.out)
      have HMX : Hid (k + 1 ≤ maxLen) := Lib.hid (by unfold maxLen; omega)
      have HBY : Hid ((k + 1) * 88 ≤ 140737488355328) := Lib.hid (by omega)
      clear hE1
      have HKA : Hid (∀ W3 w3 : World, ∀ A2, w.heap.size + 2 ≤ W3.heap.size → Bel w W3 → Blk W3 w.heap.size 34 [.int .i64 t.k, .string t.s, .int .i64 t.n, .bool t.b, .slice t.A n t.c, .slice t.F nf t.d] → Blk W3 (w.heap.size + 1) 34 VT.zero.cs → Only (rowT A) W3 w3 → ∀ us', Beside W3 (w.heap.size + 2) A us' → (∀ k, k ∈ rowT A2 → k ∈ rowT A ∨ k = W3.heap.size) →
          Bel w w3 ∧ w.heap.size + 2 ≤ w3.heap.size ∧ Blk w3 w.heap.size 34 [.int .i64 t.k, .string t.s, .int .i64 t.n, .bool t.b, .slice t.A n t.c, .slice t.F nf t.d] ∧ Blk w3 (w.heap.size + 1) 34 VT.zero.cs ∧ Beside w3 (w.heap.size + 2) A2 us') := Lib.hid (fun W3 w3 A2 q1 q2 q3 q4 q5 us' q6 q7 =>
        ⟨bel_on q2 q5 (fun k hk => by have := q6.1 k hk; omega), Nat.le_trans q1 q5.size, q3.only q5 (fun hm => by have := q6.1 _ hm; omega), q4.only q5 (fun hm => by have := q6.1 _ hm; omega), q6.grow q5 q7 q1⟩)
      go_wp2_with (first | (go_at_call 26; refine HCALL.out.mono ?_; rintro e w2 ⟨y, rfl, hb, hy, hpl⟩; have HPY := Lib.hid hpl; have HB3 := Lib.hid (show Bel w (w2.alloc (.cells #[.int .i64 y.k, .string y.s, .int .i64 y.n, .bool y.b, .slice y.A y.xs.length y.c, .slice y.F y.vs.length y.d] 34)) from HB.out.trans (hb.trans (Bel.alloc _ _))); have HS3 : Hid (w.heap.size + 2 ≤ (w2.alloc (.cells #[.int .i64 y.k, .string y.s, .int .i64 y.n, .bool y.b, .slice y.A y.xs.length y.c, .slice y.F y.vs.length y.d] 34)).heap.size) := Lib.hid (Nat.le_trans HS.out (hb.trans (Bel.alloc _ _)).size); have HVB3 := Lib.hid (show Blk (w2.alloc (.cells #[.int .i64 y.k, .string y.s, .int .i64 y.n, .bool y.b, .slice y.A y.xs.length y.c, .slice y.F y.vs.length y.d] 34)) w.heap.size 34 _ from (HVB.out.below hb HVB.out.lt).alloc _); have HZB3 := Lib.hid (show Blk (w2.alloc (.cells #[.int .i64 y.k, .string y.s, .int .i64 y.n, .bool y.b, .slice y.A y.xs.length y.c, .slice y.F y.vs.length y.d] 34)) (w.heap.size + 1) 34 _ from (HZB.out.below hb HZB.out.lt).alloc _); have HROW3 := Lib.hid (show KRow (w2.alloc (.cells #[.int .i64 y.k, .string y.s, .int .i64 y.n, .bool y.b, .slice y.A y.xs.length y.c, .slice y.F y.vs.length y.d] 34)) 34 6 VT.cs A c us from (HROW.out.only (bel_only hb) (by simp)).alloc _); have HSRC := Lib.hid (show Src (w2.alloc (.cells #[.int .i64 y.k, .string y.s, .int .i64 y.n, .bool y.b, .slice y.A y.xs.length y.c, .slice y.F y.vs.length y.d] 34)) 6 VT.cs (some ⟨w2.heap.size, 0, none⟩) [y] from src_blk (Blk.new w2 34 y.cs) (flat_one y).symm); have HBE3 := Lib.hid (show Beside (w2.alloc (.cells #[.int .i64 y.k, .string y.s, .int .i64 y.n, .bool y.b, .slice y.A y.xs.length y.c, .slice y.F y.vs.length y.d] 34)) (w.heap.size + 2) A (us ++ [y]) from (HBE.out.push HROW.out.lt hb hy HS.out).bel (Bel.alloc _ _)); clear hb hy hpl z4 z5 c0 c1 c2 c3 c4 c5) | (with_reducible refine wp_kAppend rfl (.tmp 17) (.tmp 24) 31 rfl 34 _ 6 88 VT.cs csLen csOne Tryd.underlying31 info_value cells_value (by decide) A c us k HUL.out rfl HROW3.out (some ⟨w2.heap.size, 0, none⟩) 1 [y] 1 rfl rfl HSRC.out HMX.out HBY.out (k + 1) rfl ?_; intro A2 c2 w3 HR3 hO3 HK3; have HO3 := Lib.hid hO3; clear hO3))
      obtain ⟨q1, q2, q3, q4, q5⟩ := HKA.out _ _ A2 HS3.out HB3.out HVB3.out HZB3.out HO3.out _ HBE3.out HK3.out
      have HQ1 := Lib.hid q1
      have HQ2 := Lib.hid q2
      have HQ3 := Lib.hid q3
      have HQ4 := Lib.hid q4
      have HQ5 := Lib.hid q5
      have HL4 : Hid ((us ++ [y]).length = k + 1) := Lib.hid (by rw [List.length_append, HUL.out]; rfl)
      have HPL4 : Hid (∀ (i : Nat) (u : VT), (us ++ [y])[i]? = some u → some u.plain = (t.xs[i]?).map fun t => t.plain.sort) := Lib.hid (fun i u hu => by
        have hul := HUL.out
        by_cases hi2 : i < us.length
        · rw [List.getElem?_append_left hi2] at hu; exact HPL.out i u hu
        · have e : i = us.length := by
            have := (List.getElem?_eq_some_iff.1 hu).1
            simp at this
            omega
          rw [e] at hu ⊢
          simp at hu
          subst hu
          rw [hul, HXK.out, HPY.out]; rfl)
      clear q1 q2 q3 q4 q5
      go_roundw
      case rel => exact ⟨k + 1, us ++ [y], A2, c2, by omega, by go_num, rfl, HL4, HQ1, HQ2, HQ3, HQ4, HR3, HQ5, HPL4⟩
      case measure => simp [intOf]; omega
    · obtain rfl : n = k := by omega
      go_wp2_with fail
      clear z4 z5 hk hlt
      rename World => wB
      go_loopw [5, 6] (fun s5 s6 wq => ∃ (k : Nat) (fs : List (ByteArray × VT)) (AF : Option Addr) (cF : Nat), k ≤ nf ∧ s6 = .int .i64 k ∧ s5 = .slice AF k cF ∧ Hid (fs.length = k) ∧ Hid (Bel wB wq) ∧ Hid (KRow wq 57 7 fF AF cF fs) ∧ Hid (Beside wq wB.heap.size AF (fs.map (·.2))) ∧ Hid (Ord t fs k)) (fun s5 s6 _ => nf - (intOf s6).toNat)
      case atStart => exact ⟨0, [], none, 0, Nat.zero_le _, rfl, rfl, Lib.hid rfl, Lib.hid (bel_of_only (Only.refl _ _)), Lib.hid (KRow.nil _ _ _ _), Lib.hid ⟨by simp [rowT], by intro u hu; simp at hu⟩, Lib.hid (Ord.start t)⟩
      case round =>
        obtain ⟨k, fs, AF, cF, hk, rfl, rfl, HFL, HBQ, HFR, HFB, HORD⟩ := hrel
        have HBWQ : Hid (Bel w wr) := Lib.hid (HB.out.trans HBQ.out)
        have HVBQ := Lib.hid (HVB.out.below HBQ.out HVB.out.lt)
        have HZBQ := Lib.hid (HZB.out.below HBQ.out HZB.out.lt)
        have z5 := HVBQ.out.cell 5
        by_cases hlt : k < nf
        · have hkx : k < t.vs.length := by have := HNF.out; omega
          have hkk : k < t.ks.length := by have := HKL.out; omega
          obtain ⟨g, o, hAA, hg, hcell⟩ := HF.out (by omega)
          have hxk := List.getElem?_eq_getElem hkx
          have hyk := List.getElem?_eq_getElem hkk
          obtain ⟨c6, c0, c1, c2, c3, c4, c5⟩ := hcell k _ _ hyk hxk
          have hE1 := HV.out _ (List.getElem_mem hkx)
          have HXK := Lib.hid hxk
          have HYK := Lib.hid hyk
          have hvt := HVBQ.out.cell 5
          rw [hAA] at z5 hvt
          clear hcell hxk hyk hAA
          generalize t.vs[k] = x at *
          generalize t.ks[k] = key at *
          have HC6 := Lib.hid c6; have HC0 := Lib.hid c0; have HC1 := Lib.hid c1; have HC2 := Lib.hid c2; have HC3 := Lib.hid c3; have HC4 := Lib.hid c4; have HC5 := Lib.hid c5
          have HVT := Lib.hid hvt
          have HE1 := Lib.hid hE1
          clear c0 c1 c2 c3 c4 c5 c6 hvt hE1
          go_wp2_with fail
          go_cut [7] (fun s7 wx => ∃ (fb : Nat) (y : VT), s7 = .pointer (some ⟨fb, 0, none⟩) ∧ Hid (Bel wr wx) ∧ Hid (wr.heap.size ≤ fb) ∧ Hid (Blk wx fb 57 (fF (key, y))) ∧ Hid (y.In wx (fun g => wr.heap.size ≤ g ∧ g < wx.heap.size ∧ g ≠ fb)) ∧ Hid (y.plain = x.plain.sort))
          case first =>
            refine region_begin (T := []) (by kernel_rfl) ?_
            have hbV : Bel wr wr.drew := Bel.drew _
            generalize wr.drew = V at hbV ⊢
            have HBV := Lib.hid hbV
            have HWV := Lib.hid (HBWQ.out.trans hbV)
            have z0 : ∀ q : Later [] V, q.w.cell? ⟨w.heap.size, 5, none⟩ = some (.slice (some ⟨g, o, none⟩) nf t.d) := fun q => (only_cell q.h (Nat.lt_of_lt_of_le HVBQ.out.lt hbV.size) (by simp)).trans ((hbV.cell HVBQ.out.lt).trans HVT.out)
            have b0 : ∀ q : Later [] V, q.w.cell? ⟨g, o + k * 7, none⟩ = some (.string key) := fun q => (only_cell q.h (Nat.lt_of_lt_of_le hg HWV.out.size) (by simp)).trans ((HWV.out.cell hg).trans HC6.out)
            have b1 : ∀ q : Later [] V, q.w.cell? ⟨g, o + k * 7 + 1, none⟩ = some (.int .i64 x.k) := fun q => (only_cell q.h (Nat.lt_of_lt_of_le hg HWV.out.size) (by simp)).trans ((HWV.out.cell hg).trans HC0.out)
            have b2 : ∀ q : Later [] V, q.w.cell? ⟨g, o + k * 7 + 1 + 1, none⟩ = some (.string x.s) := fun q => (only_cell q.h (Nat.lt_of_lt_of_le hg HWV.out.size) (by simp)).trans ((HWV.out.cell hg).trans HC1.out)
            have b3 : ∀ q : Later [] V, q.w.cell? ⟨g, o + k * 7 + 1 + 2, none⟩ = some (.int .i64 x.n) := fun q => (only_cell q.h (Nat.lt_of_lt_of_le hg HWV.out.size) (by simp)).trans ((HWV.out.cell hg).trans HC2.out)
            have b4 : ∀ q : Later [] V, q.w.cell? ⟨g, o + k * 7 + 1 + 3, none⟩ = some (.bool x.b) := fun q => (only_cell q.h (Nat.lt_of_lt_of_le hg HWV.out.size) (by simp)).trans ((HWV.out.cell hg).trans HC3.out)
            have b5 : ∀ q : Later [] V, q.w.cell? ⟨g, o + k * 7 + 1 + 4, none⟩ = some (.slice x.A x.xs.length x.c) := fun q => (only_cell q.h (Nat.lt_of_lt_of_le hg HWV.out.size) (by simp)).trans ((HWV.out.cell hg).trans HC4.out)
            have b6 : ∀ q : Later [] V, q.w.cell? ⟨g, o + k * 7 + 1 + 5, none⟩ = some (.slice x.F x.vs.length x.d) := fun q => (only_cell q.h (Nat.lt_of_lt_of_le hg HWV.out.size) (by simp)).trans ((HWV.out.cell hg).trans HC5.out)
            clear hbV
            refine region_seg [true, true, true, true, true, true, true, true, true, true, true, true] 4 (by kernel_rfl) (by kernel_rfl) (by kernel_rfl) rfl (fun _ _ d _ _ h => by cases d <;> exact h) ?_
            repeat (first | with_reducible refine wpMask_pass ?_ | (refine wpMask_want (by rfl) (fun K hK => ?_); go_big_quiet_op; refine hK _ ?_; clear hK K))
            with_reducible refine wpMask_nil ?_
            clear z0 b0 b1 b2 b3 b4 b5 b6
            refine keep_call_or_make 12 14 (v := .pointer (some ⟨V.heap.size, 0, none⟩)) (w1 := (V.alloc (.cells #[.string ByteArray.empty, .int .i64 0, .string ByteArray.empty, .int .i64 0, .bool false, .slice none 0 0, .slice none 0 0] 57))) (by kernel_rfl) rfl (by rfl) (by go_simp; exact ⟨rfl, rfl⟩) rfl (by rfl) (by go_simp; rfl) ((Only.refl _ _).alloc _) ?_ ?_
            · refine (HE1.out V HWV.out).mono ?_
              rintro e w2 ⟨y, rfl, hb, hy, hpl⟩
              refine ⟨_, rfl, bel_only hb, ?_⟩
              simp only [List.getElem_toArray, List.getElem_cons_zero, List.getElem_cons_succ, Act.put, List.setIfInBounds_toArray, List.set_cons_zero, List.set_cons_succ]
              have HB2 := Lib.hid hb
              have HY := Lib.hid hy
              have HPY := Lib.hid hpl
              have HOV : Hid (Only [] V (w2.alloc (.cells #[.string ByteArray.empty, .int .i64 0, .string ByteArray.empty, .int .i64 0, .bool false, .slice none 0 0, .slice none 0 0] 57))) := Lib.hid ((bel_only hb).alloc _)
              have HBV2 : Hid (V.heap.size ≤ w2.heap.size) := Lib.hid hb.size
              have HYW : Hid (y.In (w2.alloc (.cells #[.string ByteArray.empty, .int .i64 0, .string ByteArray.empty, .int .i64 0, .bool false, .slice none 0 0, .slice none 0 0] 57)) (fun g => V.heap.size ≤ g ∧ g < (w2.alloc (.cells #[.string ByteArray.empty, .int .i64 0, .string ByteArray.empty, .int .i64 0, .bool false, .slice none 0 0, .slice none 0 0] 57)).heap.size ∧ g ≠ w2.heap.size)) := Lib.hid (hy.only ((Only.refl [] w2).alloc _) (fun g hg => ⟨by simp, hg.2⟩) (fun g hg => ⟨hg.1, by simp; omega, by omega⟩))
              clear hb hy hpl
              refine keep_make2 13 14 (v1 := (.agg #[.string key, .int .i64 y.k, .string y.s, .int .i64 y.n, .bool y.b, .slice y.A y.xs.length y.c, .slice y.F y.vs.length y.d])) (w1 := w2) (v2 := .pointer (some ⟨w2.heap.size, 0, none⟩)) (w2 := (w2.alloc (.cells #[.string ByteArray.empty, .int .i64 0, .string ByteArray.empty, .int .i64 0, .bool false, .slice none 0 0, .slice none 0 0] 57))) (by kernel_rfl) rfl (by rfl) (by go_simp) (bel_only HB2.out) rfl (by rfl) (by go_simp; rfl) HOV.out ?_ ?_
              · simp only [List.getElem_toArray, List.getElem_cons_zero, List.getElem_cons_succ, Act.put, List.setIfInBounds_toArray, List.set_cons_zero, List.set_cons_succ]
                refine keep_make 14 (v := .pointer (some ⟨w2.heap.size, 0, none⟩)) (w1 := (w2.alloc (.cells #[.string ByteArray.empty, .int .i64 0, .string ByteArray.empty, .int .i64 0, .bool false, .slice none 0 0, .slice none 0 0] 57))) (by kernel_rfl) rfl (by rfl) (by go_simp; rfl) HOV.out ?_
                simp only [List.getElem_toArray, List.getElem_cons_zero, List.getElem_cons_succ, Act.put, List.setIfInBounds_toArray, List.set_cons_zero, List.set_cons_succ]
                have hz : Blk (w2.alloc (.cells #[.string ByteArray.empty, .int .i64 0, .string ByteArray.empty, .int .i64 0, .bool false, .slice none 0 0, .slice none 0 0] 57)) w2.heap.size 57 [.string ByteArray.empty, .int .i64 0, .string ByteArray.empty, .int .i64 0, .bool false, .slice none 0 0, .slice none 0 0] := Blk.new w2 57 _
                have z0 := hz.cell 0
                have f0 := hz.free 0
                have z1 := hz.cell 1
                have f1 := hz.free 1
                have z2 := hz.cell 2
                have f2 := hz.free 2
                have z3 := hz.cell 3
                have f3 := hz.free 3
                have z4 := hz.cell 4
                have f4 := hz.free 4
                have z5 := hz.cell 5
                have f5 := hz.free 5
                have z6 := hz.cell 6
                have f6 := hz.free 6
                have HW2 := Lib.hid (Only7 (w2.alloc (.cells #[.string ByteArray.empty, .int .i64 0, .string ByteArray.empty, .int .i64 0, .bool false, .slice none 0 0, .slice none 0 0] 57)) w2.heap.size (.string key) (.int .i64 y.k) (.string y.s) (.int .i64 y.n) (.bool y.b) (.slice y.A y.xs.length y.c) (.slice y.F y.vs.length y.d))
                have HBL := Lib.hid (set7 hz (.string key) (.int .i64 y.k) (.string y.s) (.int .i64 y.n) (.bool y.b) (.slice y.A y.xs.length y.c) (.slice y.F y.vs.length y.d))
                clear hz
                refine keep_store 15 (w1 := ((((((((w2.alloc (.cells #[.string ByteArray.empty, .int .i64 0, .string ByteArray.empty, .int .i64 0, .bool false, .slice none 0 0, .slice none 0 0] 57)).setCell ⟨w2.heap.size, 0, none⟩ (.string key)).setCell ⟨w2.heap.size, 1, none⟩ (.int .i64 y.k)).setCell ⟨w2.heap.size, 2, none⟩ (.string y.s)).setCell ⟨w2.heap.size, 3, none⟩ (.int .i64 y.n)).setCell ⟨w2.heap.size, 4, none⟩ (.bool y.b)).setCell ⟨w2.heap.size, 5, none⟩ (.slice y.A y.xs.length y.c)).setCell ⟨w2.heap.size, 6, none⟩ (.slice y.F y.vs.length y.d))) (by kernel_rfl) rfl (by rfl) (by go_simp) (Only.join HOV.out HW2.out (fun i hi => .inr (by simp at hi; rw [hi]; exact HBV2.out))) ?_
                refine region_end (by kernel_rfl) ?_
                simp only [List.getElem_toArray, List.getElem_cons_zero, List.getElem_cons_succ, Act.put, List.setIfInBounds_toArray, List.set_cons_zero, List.set_cons_succ]
                clear z0 z1 z2 z3 z4 z5 z6 f0 f1 f2 f3 f4 f5 f6
                go_wp2_with fail
                go_meet
                exact ⟨w2.heap.size, y, rfl, Lib.hid (bel_on (HBV.out.trans (bel_of_only HOV.out)) HW2.out (fun i hi => by simp at hi; rw [hi]; exact Nat.le_trans HBV.out.size HBV2.out)), Lib.hid (Nat.le_trans HBV.out.size HBV2.out), HBL, Lib.hid (HYW.out.only HW2.out (fun g hg => ⟨by simp; exact hg.2.2, hg.2.1⟩) (fun g hg => ⟨Nat.le_trans HBV.out.size hg.1, Nat.lt_of_lt_of_le hg.2.1 HW2.out.size, hg.2.2⟩)), HPY⟩
              · simp only [List.getElem_toArray, List.getElem_cons_zero, List.getElem_cons_succ, Act.put, List.setIfInBounds_toArray, List.set_cons_zero, List.set_cons_succ]
                refine keep_make 13 (v := (.agg #[.string key, .int .i64 y.k, .string y.s, .int .i64 y.n, .bool y.b, .slice y.A y.xs.length y.c, .slice y.F y.vs.length y.d])) (w1 := (w2.alloc (.cells #[.string ByteArray.empty, .int .i64 0, .string ByteArray.empty, .int .i64 0, .bool false, .slice none 0 0, .slice none 0 0] 57))) (by kernel_rfl) rfl (by rfl) (by go_simp) HOV.out ?_
                simp only [List.getElem_toArray, List.getElem_cons_zero, List.getElem_cons_succ, Act.put, List.setIfInBounds_toArray, List.set_cons_zero, List.set_cons_succ]
                have hz : Blk (w2.alloc (.cells #[.string ByteArray.empty, .int .i64 0, .string ByteArray.empty, .int .i64 0, .bool false, .slice none 0 0, .slice none 0 0] 57)) w2.heap.size 57 [.string ByteArray.empty, .int .i64 0, .string ByteArray.empty, .int .i64 0, .bool false, .slice none 0 0, .slice none 0 0] := Blk.new w2 57 _
                have z0 := hz.cell 0
                have f0 := hz.free 0
                have z1 := hz.cell 1
                have f1 := hz.free 1
                have z2 := hz.cell 2
                have f2 := hz.free 2
                have z3 := hz.cell 3
                have f3 := hz.free 3
                have z4 := hz.cell 4
                have f4 := hz.free 4
                have z5 := hz.cell 5
                have f5 := hz.free 5
                have z6 := hz.cell 6
                have f6 := hz.free 6
                have HW2 := Lib.hid (Only7 (w2.alloc (.cells #[.string ByteArray.empty, .int .i64 0, .string ByteArray.empty, .int .i64 0, .bool false, .slice none 0 0, .slice none 0 0] 57)) w2.heap.size (.string key) (.int .i64 y.k) (.string y.s) (.int .i64 y.n) (.bool y.b) (.slice y.A y.xs.length y.c) (.slice y.F y.vs.length y.d))
                have HBL := Lib.hid (set7 hz (.string key) (.int .i64 y.k) (.string y.s) (.int .i64 y.n) (.bool y.b) (.slice y.A y.xs.length y.c) (.slice y.F y.vs.length y.d))
                clear hz
                refine keep_store 15 (w1 := ((((((((w2.alloc (.cells #[.string ByteArray.empty, .int .i64 0, .string ByteArray.empty, .int .i64 0, .bool false, .slice none 0 0, .slice none 0 0] 57)).setCell ⟨w2.heap.size, 0, none⟩ (.string key)).setCell ⟨w2.heap.size, 1, none⟩ (.int .i64 y.k)).setCell ⟨w2.heap.size, 2, none⟩ (.string y.s)).setCell ⟨w2.heap.size, 3, none⟩ (.int .i64 y.n)).setCell ⟨w2.heap.size, 4, none⟩ (.bool y.b)).setCell ⟨w2.heap.size, 5, none⟩ (.slice y.A y.xs.length y.c)).setCell ⟨w2.heap.size, 6, none⟩ (.slice y.F y.vs.length y.d))) (by kernel_rfl) rfl (by rfl) (by go_simp) (Only.join HOV.out HW2.out (fun i hi => .inr (by simp at hi; rw [hi]; exact HBV2.out))) ?_
                refine region_end (by kernel_rfl) ?_
                simp only [List.getElem_toArray, List.getElem_cons_zero, List.getElem_cons_succ, Act.put, List.setIfInBounds_toArray, List.set_cons_zero, List.set_cons_succ]
                clear z0 z1 z2 z3 z4 z5 z6 f0 f1 f2 f3 f4 f5 f6
                go_wp2_with fail
                go_meet
                exact ⟨w2.heap.size, y, rfl, Lib.hid (bel_on (HBV.out.trans (bel_of_only HOV.out)) HW2.out (fun i hi => by simp at hi; rw [hi]; exact Nat.le_trans HBV.out.size HBV2.out)), Lib.hid (Nat.le_trans HBV.out.size HBV2.out), HBL, Lib.hid (HYW.out.only HW2.out (fun g hg => ⟨by simp; exact hg.2.2, hg.2.1⟩) (fun g hg => ⟨Nat.le_trans HBV.out.size hg.1, Nat.lt_of_lt_of_le hg.2.1 HW2.out.size, hg.2.2⟩)), HPY⟩
            · simp only [List.getElem_toArray, List.getElem_cons_zero, List.getElem_cons_succ, Act.put, List.setIfInBounds_toArray, List.set_cons_zero, List.set_cons_succ]
              refine keep_call 12 (by kernel_rfl) rfl (by rfl) (by go_simp; exact ⟨rfl, rfl⟩) ?_
              refine (HE1.out (V.alloc (.cells #[.string ByteArray.empty, .int .i64 0, .string ByteArray.empty, .int .i64 0, .bool false, .slice none 0 0, .slice none 0 0] 57)) (HWV.out.trans (Bel.alloc _ _))).mono ?_
              rintro e w2 ⟨y, rfl, hb, hy, hpl⟩
              refine ⟨_, rfl, ((Only.refl [] V).alloc _).trans (bel_only hb), ?_⟩
              simp only [List.getElem_toArray, List.getElem_cons_zero, List.getElem_cons_succ, Act.put, List.setIfInBounds_toArray, List.set_cons_zero, List.set_cons_succ]
              have HB2 := Lib.hid hb
              have HPY := Lib.hid hpl
              have HOV : Hid (Only [] V w2) := Lib.hid (((Only.refl [] V).alloc _).trans (bel_only hb))
              have HBV2 : Hid (V.heap.size ≤ V.heap.size) := Lib.hid (Nat.le_refl _)
              have HYW : Hid (y.In w2 (fun g => V.heap.size ≤ g ∧ g < w2.heap.size ∧ g ≠ V.heap.size)) := Lib.hid (hy.only (Only.refl [] w2) (fun g hg => ⟨by simp, hg.2⟩) (fun g hg => by have h1 := hg.1; have h2 := hg.2; simp at h1; exact ⟨by omega, h2, by omega⟩))
              have HBK : Hid (Blk w2 V.heap.size 57 [.string ByteArray.empty, .int .i64 0, .string ByteArray.empty, .int .i64 0, .bool false, .slice none 0 0, .slice none 0 0]) := Lib.hid ((Blk.new V 57 [.string ByteArray.empty, .int .i64 0, .string ByteArray.empty, .int .i64 0, .bool false, .slice none 0 0, .slice none 0 0]).below hb (by simp))
              clear hb hy hpl
              refine keep_make 13 (v := (.agg #[.string key, .int .i64 y.k, .string y.s, .int .i64 y.n, .bool y.b, .slice y.A y.xs.length y.c, .slice y.F y.vs.length y.d])) (w1 := w2) (by kernel_rfl) rfl (by rfl) (by go_simp) HOV.out ?_
              simp only [List.getElem_toArray, List.getElem_cons_zero, List.getElem_cons_succ, Act.put, List.setIfInBounds_toArray, List.set_cons_zero, List.set_cons_succ]
              have hz : Blk w2 V.heap.size 57 [.string ByteArray.empty, .int .i64 0, .string ByteArray.empty, .int .i64 0, .bool false, .slice none 0 0, .slice none 0 0] := HBK.out
              have z0 := hz.cell 0
              have f0 := hz.free 0
              have z1 := hz.cell 1
              have f1 := hz.free 1
              have z2 := hz.cell 2
              have f2 := hz.free 2
              have z3 := hz.cell 3
              have f3 := hz.free 3
              have z4 := hz.cell 4
              have f4 := hz.free 4
              have z5 := hz.cell 5
              have f5 := hz.free 5
              have z6 := hz.cell 6
              have f6 := hz.free 6
              have HW2 := Lib.hid (Only7 w2 V.heap.size (.string key) (.int .i64 y.k) (.string y.s) (.int .i64 y.n) (.bool y.b) (.slice y.A y.xs.length y.c) (.slice y.F y.vs.length y.d))
              have HBL := Lib.hid (set7 hz (.string key) (.int .i64 y.k) (.string y.s) (.int .i64 y.n) (.bool y.b) (.slice y.A y.xs.length y.c) (.slice y.F y.vs.length y.d))
              clear hz
              refine keep_store 15 (w1 := (((((((w2.setCell ⟨V.heap.size, 0, none⟩ (.string key)).setCell ⟨V.heap.size, 1, none⟩ (.int .i64 y.k)).setCell ⟨V.heap.size, 2, none⟩ (.string y.s)).setCell ⟨V.heap.size, 3, none⟩ (.int .i64 y.n)).setCell ⟨V.heap.size, 4, none⟩ (.bool y.b)).setCell ⟨V.heap.size, 5, none⟩ (.slice y.A y.xs.length y.c)).setCell ⟨V.heap.size, 6, none⟩ (.slice y.F y.vs.length y.d))) (by kernel_rfl) rfl (by rfl) (by go_simp) (Only.join HOV.out HW2.out (fun i hi => .inr (by simp at hi; rw [hi]; exact HBV2.out))) ?_
              refine region_end (by kernel_rfl) ?_
              simp only [List.getElem_toArray, List.getElem_cons_zero, List.getElem_cons_succ, Act.put, List.setIfInBounds_toArray, List.set_cons_zero, List.set_cons_succ]
              clear z0 z1 z2 z3 z4 z5 z6 f0 f1 f2 f3 f4 f5 f6
              go_wp2_with fail
              go_meet
              exact ⟨V.heap.size, y, rfl, Lib.hid (bel_on (HBV.out.trans (bel_of_only HOV.out)) HW2.out (fun i hi => by simp at hi; rw [hi]; exact Nat.le_trans HBV.out.size HBV2.out)), Lib.hid (Nat.le_trans HBV.out.size HBV2.out), HBL, Lib.hid (HYW.out.only HW2.out (fun g hg => ⟨by simp; exact hg.2.2, hg.2.1⟩) (fun g hg => ⟨Nat.le_trans HBV.out.size hg.1, Nat.lt_of_lt_of_le hg.2.1 HW2.out.size, hg.2.2⟩)), HPY⟩
          case rest =>
            obtain ⟨fb, y, rfl, HBC, HFBL, HFBK, HYI, HYP⟩ := hcut
            rename World => wC
            obtain ⟨wQ, hwQ⟩ : ∃ v, v = wr := ⟨_, rfl⟩
            subst hwQ
            go_upto_block 4 with fail
            go_cut [8] (fun s8 wx => ∃ j : Nat, j ≤ k ∧ s8 = .int .i64 j ∧ Hid (Bel wC wx) ∧ Hid (∀ (i : Nat) (p : ByteArray × VT), j ≤ i → fs[i]? = some p → kL key ≤ kL p.1) ∧ Hid (∀ p : ByteArray × VT, 0 < j → fs[j - 1]? = some p → kL p.1 ≤ kL key))
            case first =>
              go_wp2_with fail
              go_loopw [8] (fun s8 wq => ∃ j : Nat, j ≤ k ∧ s8 = .int .i64 j ∧ Hid (Bel wC wq) ∧ Hid (∀ (i : Nat) (p : ByteArray × VT), j ≤ i → fs[i]? = some p → kL key ≤ kL p.1)) (fun s8 _ => (intOf s8).toNat)
              case atStart => exact ⟨k, Nat.le_refl _, rfl, Lib.hid (bel_of_only (Only.refl _ _)), Lib.hid (fun i p h1 h2 => by have := HFL.out; have := (List.getElem?_eq_some_iff.1 h2).1; omega)⟩
              case round =>
                obtain ⟨j, hj, rfl, HBJ, HGT⟩ := hrel
                by_cases hj0 : j = 0
                · subst hj0
                  go_wp2_with fail
                  refine region_begin (T := []) (by kernel_rfl) ?_
                  have HBV := Lib.hid (HBJ.out.trans (Bel.drew wr))
                  generalize wr.drew = V at HBV ⊢
                  refine region_seg [true, true, true, true, true, true, true, true, true, true, true, true, true] 0 (by kernel_rfl) (by kernel_rfl) (by kernel_rfl) rfl (fun _ _ d _ _ h => by cases d <;> exact h) ?_
                  iterate 3 (refine wpMask_want (by rfl) (fun K hK => ?_); go_big_quiet_op; refine hK _ ?_; clear hK K)
                  iterate 9 (with_reducible refine wpMask_skip (by kernel_rfl) ?_; simp only [Act.put, List.setIfInBounds_toArray, List.set_cons_zero, List.set_cons_succ])
                  (refine wpMask_want (by rfl) (fun K hK => ?_); go_big_quiet_op; refine hK _ ?_; clear hK K)
                  with_reducible refine wpMask_nil ?_
                  refine region_end (by kernel_rfl) ?_
                  go_wp2_with fail
                  go_meet
                  exact ⟨0, Nat.zero_le _, rfl, HBV, HGT, Lib.hid (fun p h0 => absurd h0 (Nat.lt_irrefl 0))⟩
                · obtain ⟨j, rfl⟩ : ∃ j', j = j' + 1 := ⟨j - 1, by omega⟩
                  have hjl : j < fs.length := by have := HFL.out; omega
                  have hpj := List.getElem?_eq_getElem hjl
                  obtain ⟨g2, o2, hAF, hg2, hce⟩ := KRow.at_ HFR.out fF_len hpj (by decide)
                  have HPJ := Lib.hid hpj
                  generalize fs[j] = p at HPJ hce
                  have HK0 := Lib.hid (hce 0 (.string p.1) rfl)
                  have hpk := HPJ.out
                  clear hce hpj
                  subst hAF
                  go_wp2_with fail
                  refine region_begin (T := []) (by kernel_rfl) ?_
                  have HBV := Lib.hid (HBJ.out.trans (Bel.drew wr))
                  generalize wr.drew = V at HBV ⊢
                  have b0 : ∀ q : Later [] V, q.w.cell? ⟨g2, o2 + j * 7, none⟩ = some (.string p.1) := fun q => (only_cell q.h (Nat.lt_of_lt_of_le hg2 (HBC.out.trans HBV.out).size) (by simp)).trans (((HBC.out.trans HBV.out).cell hg2).trans HK0.out)
                  have b1 : ∀ q : Later [] V, q.w.cell? ⟨fb, 0, none⟩ = some (.string key) := fun q => (only_cell q.h (Nat.lt_of_lt_of_le HFBK.out.lt HBV.out.size) (by simp)).trans ((HBV.out.cell HFBK.out.lt).trans (HFBK.out.cell 0))
                  refine region_seg [true, true, true, true, true, true, true, true, true, true, true, true, true] 0 (by kernel_rfl) (by kernel_rfl) (by kernel_rfl) rfl (fun _ _ d _ _ h => by cases d <;> exact h) ?_
                  iterate 13 (refine wpMask_want (by rfl) (fun K hK => ?_); go_big_quiet_op; refine hK _ ?_; clear hK K)
                  with_reducible refine wpMask_nil ?_
                  refine region_end (by kernel_rfl) ?_
                  clear b0 b1 hpk
                  go_wp2_with fail
                  · have hlt9 := key_gt (by assumption)
                    have HGT2 : Hid (∀ (i : Nat) (q : ByteArray × VT), j ≤ i → fs[i]? = some q → kL key ≤ kL q.1) := Lib.hid (fun i q h1 h2 => by
                      by_cases e : i = j
                      · subst e
                        obtain rfl : q = p := Option.some.inj (h2.symm.trans HPJ.out)
                        exact hlt9
                      · exact HGT.out i q (by omega) h2)
                    clear hlt9
                    go_roundw
                    case rel => exact ⟨j, by omega, rfl, HBV, HGT2⟩
                    case measure => simp [intOf]
                  · have hle9 := key_le (by assumption)
                    go_meet
                    exact ⟨j + 1, hj, rfl, HBV, HGT, Lib.hid (fun q _ h2 => by
                      obtain rfl : q = p := Option.some.inj (h2.symm.trans HPJ.out)
                      exact hle9)⟩
            case rest =>
              obtain ⟨j, hj, rfl, HBJ, HGT, HLE⟩ := hcut
              have hjc : j ≤ cF := by have h1 := HFR.out.le; have h2 := HFL.out; omega
              have hkc : k ≤ cF := by have h1 := HFR.out.le; have h2 := HFL.out; omega
              have HBW : Hid (Bel wQ wc) := Lib.hid (HBC.out.trans HBJ.out)
              have HE0 : Hid (KRow (wc.alloc (.cells #[] 57)) 57 7 fF (some ⟨wc.heap.size, 0, none⟩) 0 ([] : List (ByteArray × VT))) := Lib.hid (KRow.of_room (Blk.new wc 57 []) 0 rfl (Nat.zero_le _))
              have HFR1 : Hid (KRow (wc.alloc (.cells #[] 57)) 57 7 fF AF cF fs) := Lib.hid ((HFR.out.only (bel_only HBW.out) (by simp)).alloc _)
              have HTK : Hid ((fs.take j).length = j) := Lib.hid (by rw [List.length_take]; have := HFL.out; omega)
              have HTK2 : Hid ((([] : List (ByteArray × VT)) ++ fs.take j).length = j) := Lib.hid (by rw [List.nil_append]; exact HTK.out)
              have HTK3 : Hid (((([] : List (ByteArray × VT)) ++ fs.take j) ++ [(key, y)]).length = j + 1) := Lib.hid (by rw [List.length_append, HTK2.out]; rfl)
              have HDR : Hid ((fs.drop j).length = k - j) := Lib.hid (by rw [List.length_drop, HFL.out])
              have HSR1 : Hid (Src (wc.alloc (.cells #[] 57)) 7 fF AF (fs.take j)) := Lib.hid (HFR1.out.first fF_len j (by have := HFL.out; omega)).src
              have HLT : Hid (∀ g, g ∈ rowT AF → g < wc.heap.size) := Lib.hid (fun g hg => Nat.lt_of_lt_of_le (HFR.out.lt g hg) HBW.out.size)
              have HFBL2 : Hid (fb < wc.heap.size) := Lib.hid (HFBK.out.below HBJ.out HFBK.out.lt).lt
              have HFB1 : Hid (Blk (wc.alloc (.cells #[] 57)) fb 57 (fF (key, y))) := Lib.hid ((HFBK.out.below HBJ.out HFBK.out.lt).alloc _)
              have HM1 : Hid (0 + j ≤ maxLen ∧ (0 + j) * 104 ≤ 140737488355328 ∧ j = 0 + j ∧ j + 1 ≤ maxLen ∧ (j + 1) * 104 ≤ 140737488355328 ∧ j + 1 + (k - j) ≤ maxLen ∧ (j + 1 + (k - j)) * 104 ≤ 140737488355328 ∧ k + 1 = j + 1 + (k - j)) := Lib.hid (by unfold maxLen; omega)
              go_wp2_with (first | ((with_reducible refine wp_kAppend rfl (.tmp 64) (.tmp 67) 32 rfl 57 _ 7 104 fF fF_len fF_one Tryd.underlying32 info_field cells_field (of_decide_eq_true rfl) (some ⟨wc.heap.size, 0, none⟩) 0 ([] : List (ByteArray × VT)) 0 rfl rfl HE0.out AF cF (fs.take j) j HTK.out rfl HSR1.out HM1.out.1 HM1.out.2.1 j HM1.out.2.2.1 ?_); intro A1 c1 w1 HR1 hO1 HK1; have HO1 := Lib.hid hO1; have hb := HFB1.out.only hO1 (by have := HFBL2.out; simp [rowT]; omega); have z0 : w1.cell? ⟨fb, 0, none⟩ = some (.string key) := hb.cell 0; have z1 : w1.cell? ⟨fb, 1, none⟩ = some (.int .i64 y.k) := hb.cell 1; have z2 : w1.cell? ⟨fb, 2, none⟩ = some (.string y.s) := hb.cell 2; have z3 : w1.cell? ⟨fb, 3, none⟩ = some (.int .i64 y.n) := hb.cell 3; have z4 : w1.cell? ⟨fb, 4, none⟩ = some (.bool y.b) := hb.cell 4; have z5 : w1.cell? ⟨fb, 5, none⟩ = some (.slice y.A y.xs.length y.c) := hb.cell 5; have z6 : w1.cell? ⟨fb, 6, none⟩ = some (.slice y.F y.vs.length y.d) := hb.cell 6; have HSRC2 := Lib.hid (src_new1 w1 key y); have HR1A := Lib.hid (show KRow (w1.alloc (.cells #[.string key, .int .i64 y.k, .string y.s, .int .i64 y.n, .bool y.b, .slice y.A y.xs.length y.c, .slice y.F y.vs.length y.d] 57)) 57 7 fF A1 c1 _ from HR1.out.alloc _); clear hO1 hb) | ((with_reducible refine wp_kAppend rfl (.tmp 69) (.tmp 71) 32 rfl 57 _ 7 104 fF fF_len fF_one Tryd.underlying32 info_field cells_field (of_decide_eq_true rfl) A1 c1 (([] : List (ByteArray × VT)) ++ fs.take j) j HTK2.out rfl HR1A.out (some ⟨w1.heap.size, 0, none⟩) 1 [(key, y)] 1 rfl rfl HSRC2.out HM1.out.2.2.2.1 HM1.out.2.2.2.2.1 (j + 1) rfl ?_); intro A2 c2 w2 HR2 hO2 HK2; have HO2 := Lib.hid hO2; have HSR3 : Hid (Src w2 7 fF (cutA cF j 7 AF) (fs.drop j)) := Lib.hid ((((HFR1.out.only HO1.out (fun g hg hm => by have h1 := HLT.out g hg; simp [rowT] at hm; omega)).alloc _).only HO2.out (fun g hg hm => by have h1 := HLT.out g hg; rcases HK1.out g hm with h2 | h2 <;> (simp [rowT] at h2; omega))).cut fF_len j (by have := HFL.out; omega)).src; clear hO2 z0 z1 z2 z3 z4 z5 z6) | ((with_reducible refine wp_kAppend rfl (.tmp 73) (.tmp 76) 32 rfl 57 _ 7 104 fF fF_len fF_one Tryd.underlying32 info_field cells_field (of_decide_eq_true rfl) A2 c2 ((([] : List (ByteArray × VT)) ++ fs.take j) ++ [(key, y)]) (j + 1) HTK3.out rfl HR2.out (cutA cF j 7 AF) (cF - j) (fs.drop j) (k - j) HDR.out rfl HSR3.out HM1.out.2.2.2.2.2.1 HM1.out.2.2.2.2.2.2.1 (k + 1) HM1.out.2.2.2.2.2.2.2 ?_); intro A3 c3 w3 HR3 hO3 HK3; have HO3 := Lib.hid hO3; clear hO3))
              have HBES : Hid (Beside (wc.alloc (.cells #[] 57)) wB.heap.size (some ⟨wc.heap.size, 0, none⟩) (fs.map (·.2) ++ [y])) := Lib.hid (by
                have hb1 : Bel wQ (wc.alloc (.cells #[] 57)) := HBW.out.trans (Bel.alloc _ _)
                have hl1 := HBQ.out.size
                have hl2 := HBW.out.size
                have hl3 := HBC.out.size
                have hl4 := HBJ.out.size
                refine ⟨fun g hg => by simp [rowT] at hg; omega, fun u hu => ?_⟩
                rcases List.mem_append.1 hu with hu | hu
                · exact (HFB.out.2 u hu).only (bel_only hb1) (fun g hg => ⟨by simp, hg.2.1⟩) (fun g hg => ⟨hg.1, by have := hg.2.1; simp; omega, by have := hg.2.1; simp [rowT]; omega⟩)
                · simp only [List.mem_singleton] at hu
                  subst hu
                  exact HYI.out.only (bel_only (HBJ.out.trans (Bel.alloc _ _))) (fun g hg => ⟨by simp, hg.2.1⟩) (fun g hg => ⟨by have := hg.1; omega, by have := hg.2.1; simp; omega, by have := hg.2.1; simp [rowT]; omega⟩))
              have hS1 : wB.heap.size ≤ (wc.alloc (.cells #[] 57)).heap.size := by have h1 := HBQ.out.size; have h2 := HBW.out.size; simp; omega
              have hS2 : wB.heap.size ≤ (w1.alloc (.cells #[.string key, .int .i64 y.k, .string y.s, .int .i64 y.n, .bool y.b, .slice y.A y.xs.length y.c, .slice y.F y.vs.length y.d] 57)).heap.size := Nat.le_trans hS1 (Nat.le_trans HO1.out.size (Bel.alloc w1 _).size)
              have hS3 : wB.heap.size ≤ w2.heap.size := Nat.le_trans hS2 HO2.out.size
              have hB1 := HBES.out.grow HO1.out HK1.out hS1
              have hB2 := (hB1.bel (Bel.alloc _ (.cells #[.string key, .int .i64 y.k, .string y.s, .int .i64 y.n, .bool y.b, .slice y.A y.xs.length y.c, .slice y.F y.vs.length y.d] 57))).grow HO2.out HK2.out hS2
              have hB3 := hB2.grow HO3.out HK3.out hS3
              have HBW3 : Hid (Bel wB w3) := Lib.hid (bel_on (bel_on ((bel_on (HBQ.out.trans (HBW.out.trans (Bel.alloc _ _))) HO1.out HBES.out.1).trans (Bel.alloc _ _)) HO2.out hB1.1) HO3.out hB2.1)
              have HBE3 : Hid (Beside w3 wB.heap.size A3 ((((([] : List (ByteArray × VT)) ++ fs.take j) ++ [(key, y)]) ++ fs.drop j).map (·.2))) := Lib.hid ⟨hB3.1, fun u hu => hB3.2 u (by
                obtain ⟨p, hp, rfl⟩ := List.mem_map.1 hu
                have hm : p ∈ fs ++ [(key, y)] := (ins_perm fs (key, y) j).mem_iff.1 (by simpa using hp)
                rcases List.mem_append.1 hm with h | h
                · exact List.mem_append.2 (.inl (List.mem_map_of_mem h))
                · simp at h; subst h; simp)⟩
              have HOR3 : Hid (Ord t ((([] : List (ByteArray × VT)) ++ fs.take j) ++ [(key, y)] ++ fs.drop j) (k + 1)) := Lib.hid (by
                have e : (([] : List (ByteArray × VT)) ++ fs.take j) ++ [(key, y)] ++ fs.drop j = fs.take j ++ (key, y) :: fs.drop j := by simp
                rw [e]
                refine ⟨?_, ins_ordered (r := fun p q => kL p.1 ≤ kL q.1) (fun a b c h1 h2 => List.le_trans h1 h2) HORD.out.2 (by have := HFL.out; omega) (fun i q h1 h2 => HGT.out i q h1 h2) (fun q h1 h2 => HLE.out q h1 h2)⟩
                refine ((ins_perm fs (key, y) j).map _).trans ?_
                have ez : (t.ks.zip (t.vs.map fun x => x.plain.sort))[k]? = some (key, y.plain) := by
                  rw [List.getElem?_zip_eq_some]
                  exact ⟨HYK.out, by rw [List.getElem?_map, HXK.out, HYP.out]; rfl⟩
                rw [List.map_append, List.take_add_one, ez]
                exact HORD.out.1.append_right _)
              have HLN3 : Hid (((([] : List (ByteArray × VT)) ++ fs.take j) ++ [(key, y)] ++ fs.drop j).length = k + 1) := Lib.hid (by rw [List.length_append, HTK3.out, HDR.out]; omega)
              clear hB1 hB2 hB3 hS1 hS2 hS3 hjc hkc
              go_roundw
              case rel => exact ⟨k + 1, _, A3, c3, by omega, by go_num, rfl, HLN3, HBW3, HR3, HBE3, HOR3⟩
              case measure => simp [intOf]; omega
        · obtain rfl : nf = k := by omega
          have v0 := HVBQ.out.cell 0
          have v1 := HVBQ.out.cell 1
          have v2 := HVBQ.out.cell 2
          have v3 := HVBQ.out.cell 3
          have v4 := HVBQ.out.cell 4
          have e4 := HVBQ.out.free 4
          have e5 := HVBQ.out.free 5
          have hne : w.heap.size ≠ w.heap.size + 1 := by omega
          obtain ⟨y0, y1, y2, y3, y4, y5⟩ := cs_cells HZBQ.out
          have f0 := HZBQ.out.free 0
          have f1 := HZBQ.out.free 1
          have f2 := HZBQ.out.free 2
          have f3 := HZBQ.out.free 3
          have f4 := HZBQ.out.free 4
          have f5 := HZBQ.out.free 5
          go_wp2_with fail
          obtain rfl : us.length = n := HUL.out
          obtain rfl : (fs.map (·.2)).length = nf := by rw [List.length_map]; exact HFL.out
          have hlo : w.heap.size + 1 ≠ w.heap.size := by omega
          refine bodyPost_ret (done2c (u := .mk t.k t.s t.n t.b A c us AF cF (fs.map (·.1)) (fs.map (·.2))) rfl rfl (set6 ((HZBQ.out.far (p := ⟨w.heap.size, 4, none⟩) hlo _).far (p := ⟨w.heap.size, 5, none⟩) hlo _) _ _ _ _ _ _)) rfl ?_
          have hl9 : fs.length = t.vs.length := by rw [← List.length_map (f := fun p : ByteArray × VT => p.2)]; exact HNF.out
          have hk9 : t.ks.length = t.vs.length := HKL.out.trans HNF.out
          refine sorted_done HI.out HBWQ.out HBQ.out HN.out hl9 HNF.out hk9 HND.out HS.out HROW.out HBE.out HPL.out HFR.out HFB.out HORD.out ?_
          exact ((((((((Only.refl _ _).setCell (.inl (by simp)) _).setCell (.inl (by simp)) _).setCell (.inl (by simp)) _).setCell (.inl (by simp)) _).setCell (.inl (by simp)) _).setCell (.inl (by simp)) _).setCell (.inl (by simp)) _).setCell (.inl (by simp)) _
theorem Sorted_c : ∀ (m : Nat) (t : VT) (d : Nat), d + m = 33 → t.plain.ok d → ∀ w : World, t.In w (· < w.heap.size) →
    Calls Tryd.prog 26 #[.agg #[.int .i64 t.k, .string t.s, .int .i64 t.n, .bool t.b, .slice t.A t.xs.length t.c, .slice t.F t.vs.length t.d]] w (SoR t w) := by
  intro m
  induction m with
  | zero =>
    intro t d hd h w hI
    have := (ok_parts h).1
    omega
  | succ m ih => exact fun t d hd h w hI => sorted_step m ih t d hd h w hI
end Go.Proofs.YtmgnomahnndeaaaDoor
