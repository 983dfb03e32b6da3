/-
  A value's items and fields as rows; what a clone is made of.
-/
import Derived.Test.YtollcekcmnokaaaCl10
namespace Go.Proofs.Ytollcekcmnokaaa
open Go.RowKit Go.BigFrame
set_option linter.unusedVariables false
set_option linter.unusedSimpArgs false

theorem done2d {f : Func} (hf : f.results = #[.cell 2 27]) {tmps : Array Value} {g : Nat} {u : VT} {W : World} (hp : tmps.getD 2 undef = .pointer (some ⟨g, 0, none⟩))
    (hB : Blk W g 27 u.cs) : (results f tmps).run Try.prog W = .ok u.val W := by
  have hp' : tmps[2]?.getD undef = .pointer (some ⟨g, 0, none⟩) := by simpa using hp
  have hl := run_loadVar_row W g 27 u.cs.toArray (0, 0) _ (P := Try.prog) (ty := 27) hB Try.underlying27 rfl (by kernel_rfl)
  simp [results, hf, hp', asAddr, hl]
  rfl
theorem cells_src {w : World} {A : Option Addr} {l : List VT} (h : 0 < l.length → ∃ g o, A = some ⟨g, o, none⟩ ∧ ∀ i (x : VT), l[i]? = some x → x.Cells w g (o + i * 6)) : Src w 6 VT.cs A l := fun hl => by
  obtain ⟨g, o, rfl, hc⟩ := h hl
  refine ⟨_, rfl, fun j u hu => ?_⟩
  have hj : j < l.length * 6 := by rw [← flat_length csLen]; exact (List.getElem?_eq_some_iff.1 hu).1
  have hq : j / 6 < l.length := by omega
  have hx := List.getElem?_eq_getElem hq
  have hf := flat_at csLen hx (show j % 6 < 6 by omega)
  rw [show j / 6 * 6 + j % 6 = j by omega, hu] at hf
  obtain ⟨c0, c1, c2, c3, c4, c5⟩ := hc _ _ hx
  rw [add_at]
  have e : o + j = o + j / 6 * 6 + j % 6 := by omega
  rw [e]
  generalize j % 6 = r at hf ⊢
  generalize l[j / 6] = x at *
  have hr : r < 6 := by
    have := (List.getElem?_eq_some_iff.1 hf.symm).1
    rwa [csLen] at this
  rcases (by omega : r = 0 ∨ r = 1 ∨ r = 2 ∨ r = 3 ∨ r = 4 ∨ r = 5) with rfl | rfl | rfl | rfl | rfl | rfl
  · exact c0.trans hf.symm
  · exact c1.trans hf.symm
  · exact c2.trans hf.symm
  · exact c3.trans hf.symm
  · exact c4.trans hf.symm
  · exact c5.trans hf.symm
theorem fields_src {w : World} {A : Option Addr} {ks : List ByteArray} {vs : List VT} (hkl : ks.length = vs.length)
    (h : 0 < vs.length → ∃ g o, A = some ⟨g, o, none⟩ ∧ ∀ i (x : VT) key, ks[i]? = some key → vs[i]? = some x → w.cell? ⟨g, o + i * 7, none⟩ = some (.string key) ∧ x.Cells w g (o + i * 7 + 1)) : Src w 7 fF A (ks.zip vs) := fun hl => by
  have hzl : (ks.zip vs).length = vs.length := by rw [List.length_zip]; omega
  obtain ⟨g, o, rfl, hc⟩ := h (by omega)
  refine ⟨_, rfl, fun j u hu => ?_⟩
  have hj : j < (ks.zip vs).length * 7 := by rw [← flat_length fF_len]; exact (List.getElem?_eq_some_iff.1 hu).1
  have hq : j / 7 < (ks.zip vs).length := by omega
  have hx := List.getElem?_eq_getElem hq
  have hf := flat_at fF_len hx (show j % 7 < 7 by omega)
  rw [show j / 7 * 7 + j % 7 = j by omega, hu] at hf
  generalize (ks.zip vs)[j / 7] = p at *
  obtain ⟨key, x⟩ := p
  rw [List.getElem?_zip_eq_some] at hx
  obtain ⟨k0, c0, c1, c2, c3, c4, c5⟩ := hc _ _ _ hx.1 hx.2
  rw [add_at]
  have e : o + j = o + j / 7 * 7 + j % 7 := by omega
  rw [e]
  generalize j % 7 = r at hf ⊢
  have hr : r < 7 := by
    have := (List.getElem?_eq_some_iff.1 hf.symm).1
    rwa [fF_len] at this
  rcases (by omega : r = 0 ∨ r = 1 ∨ r = 2 ∨ r = 3 ∨ r = 4 ∨ r = 5 ∨ r = 6) with rfl | rfl | rfl | rfl | rfl | rfl | rfl
  · exact k0.trans hf.symm
  · exact c0.trans hf.symm
  · exact c1.trans hf.symm
  · exact c2.trans hf.symm
  · exact c3.trans hf.symm
  · exact c4.trans hf.symm
  · exact c5.trans hf.symm
theorem VT.In.srcX {w : World} {Q : Nat → Prop} {t : VT} (h : t.In w Q) : Src w 6 VT.cs t.A t.xs := by
  cases h with
  | mk _ _ _ _ _ _ _ hA _ _ _ _ => exact cells_src fun hl => by obtain ⟨g, o, e, _, hc⟩ := hA hl; exact ⟨g, o, e, hc⟩
theorem VT.In.srcV {w : World} {Q : Nat → Prop} {t : VT} (h : t.In w Q) : Src w 7 fF t.F (t.ks.zip t.vs) := by
  cases h with
  | mk _ _ _ _ _ _ hkl _ hF _ _ _ => exact fields_src hkl fun hl => by obtain ⟨g, o, e, _, hc⟩ := hF hl; exact ⟨g, o, e, hc⟩
theorem VT.In.len7 {w : World} {Q : Nat → Prop} {t : VT} (h : t.In w Q) : (t.ks.zip t.vs).length = t.vs.length := by
  have := h.bounds.2.2.2.2.2.2.2
  rw [List.length_zip]; omega
/-- A tree beside a row, in blocks from lo on. -/
def InFrom (w : World) (lo : Nat) (G : Option Addr) (u : VT) : Prop := u.In w (fun g => lo ≤ g ∧ g < w.heap.size ∧ g ∉ rowT G)
theorem InFrom.only {w w' : World} {lo : Nat} {G : Option Addr} {u : VT} {S : List Nat} (h : InFrom w lo G u) (ho : Only S w w') (hS : ∀ g, g ∈ S → g < lo ∨ g ∈ rowT G ∨ w.heap.size ≤ g) : InFrom w' lo G u :=
  VT.In.only h ho (fun g hg => ⟨fun hm => by rcases hS g hm with h | h | h; omega; exact hg.2.2 h; omega, hg.2.1⟩) (fun g hg => ⟨hg.1, Nat.lt_of_lt_of_le hg.2.1 ho.size, hg.2.2⟩)
/-- What a clone gives. -/
def ClR (t : VT) (w : World) (e : Ending) (w' : World) : Prop :=
  ∃ u : VT, e = .returned (.agg #[.int .i64 u.k, .string u.s, .int .i64 u.n, .bool u.b, .slice u.A u.xs.length u.c, .slice u.F u.vs.length u.d]) ∧ Bel w w' ∧ u.In w' (fun g => w.heap.size ≤ g ∧ g < w'.heap.size) ∧ u.plain = t.plain
/-- The items so far: the first are cloned, the others not yet. -/
structure ItemsAt (t : VT) (w : World) (lo : Nat) (G : Option Addr) (d : Nat) (us : List VT) (k : Nat) : Prop where
  len : us.length = k
  row : KRow w 27 6 VT.cs G d (us ++ t.xs.drop k)
  own : ∀ g, g ∈ rowT G → lo ≤ g
  ins : ∀ u, u ∈ us → InFrom w lo G u
  eq : ∀ (i : Nat) (u : VT), us[i]? = some u → some u.plain = (t.xs[i]?).map VT.plain
/-- The fields so far. -/
structure FieldsAt (t : VT) (w : World) (lo : Nat) (G : Option Addr) (d : Nat) (us : List VT) (k : Nat) : Prop where
  len : us.length = k
  row : KRow w 49 7 fF G d ((t.ks.take k).zip us ++ (t.ks.zip t.vs).drop k)
  own : ∀ g, g ∈ rowT G → lo ≤ g
  ins : ∀ u, u ∈ us → InFrom w lo G u
  eq : ∀ (i : Nat) (u : VT), us[i]? = some u → some u.plain = (t.vs[i]?).map VT.plain
theorem ItemsAt.only {t : VT} {w w' : World} {lo : Nat} {G : Option Addr} {d : Nat} {us : List VT} {k : Nat} {S : List Nat} (h : ItemsAt t w lo G d us k) (ho : Only S w w') (hS : ∀ g, g ∈ S → g < lo ∨ w.heap.size ≤ g) : ItemsAt t w' lo G d us k :=
  ⟨h.len, h.row.only ho (fun g hg hm => by have h1 := h.own g hg; have h2 := h.row.lt g hg; rcases hS g hm with h | h <;> omega), h.own, fun u hu => (h.ins u hu).only ho (fun g hg => (hS g hg).imp id .inr), h.eq⟩
theorem FieldsAt.only {t : VT} {w w' : World} {lo : Nat} {G : Option Addr} {d : Nat} {us : List VT} {k : Nat} {S : List Nat} (h : FieldsAt t w lo G d us k) (ho : Only S w w') (hS : ∀ g, g ∈ S → g < lo ∨ w.heap.size ≤ g) : FieldsAt t w' lo G d us k :=
  ⟨h.len, h.row.only ho (fun g hg hm => by have h1 := h.own g hg; have h2 := h.row.lt g hg; rcases hS g hm with h | h <;> omega), h.own, fun u hu => (h.ins u hu).only ho (fun g hg => (hS g hg).imp id .inr), h.eq⟩
theorem ItemsAt.bel {t : VT} {w w' : World} {lo : Nat} {G : Option Addr} {d : Nat} {us : List VT} {k : Nat} (h : ItemsAt t w lo G d us k) (hb : Bel w w') : ItemsAt t w' lo G d us k := h.only (bel_only hb) (by simp)
theorem FieldsAt.bel {t : VT} {w w' : World} {lo : Nat} {G : Option Addr} {d : Nat} {us : List VT} {k : Nat} (h : FieldsAt t w lo G d us k) (hb : Bel w w') : FieldsAt t w' lo G d us k := h.only (bel_only hb) (by simp)
theorem ItemsAt.start {t : VT} {w w' : World} {lo n : Nat} {G : Option Addr} {d : Nat} (hr : KRow w' 27 6 VT.cs G d t.xs) (ho : ∀ g, g ∈ rowT G → lo ≤ g) : ItemsAt t w' lo G d [] 0 :=
  ⟨rfl, hr, ho, (by intro u hu; cases hu), (by intro i u hu; simp at hu)⟩
theorem FieldsAt.start {t : VT} {w w' : World} {lo n : Nat} {G : Option Addr} {d : Nat} (hr : KRow w' 49 7 fF G d (t.ks.zip t.vs)) (ho : ∀ g, g ∈ rowT G → lo ≤ g) : FieldsAt t w' lo G d [] 0 :=
  ⟨rfl, hr, ho, (by intro u hu; cases hu), (by intro i u hu; simp at hu)⟩
theorem push_eq {us : List VT} {y : VT} {xs : List VT} {k : Nat} {x : VT} (hl : us.length = k) (hx : xs[k]? = some x) (hy : y.plain = x.plain) (h : ∀ (i : Nat) (u : VT), us[i]? = some u → some u.plain = (xs[i]?).map VT.plain) :
    ∀ (i : Nat) (u : VT), (us ++ [y])[i]? = some u → some u.plain = (xs[i]?).map VT.plain := by
  intro i u hu
  by_cases hi : i < us.length
  · rw [List.getElem?_append_left hi] at hu
    exact h i u hu
  · have e : i = us.length := by
      have := (List.getElem?_eq_some_iff.1 hu).1
      simp at this
      omega
    rw [e] at hu ⊢
    simp at hu
    subst hu
    rw [hl, hx, hy]
    rfl
/-- One more item. -/
theorem ItemsAt.push {t : VT} {w w' : World} {lo : Nat} {G : Option Addr} {d g o : Nat} {us : List VT} {k : Nat} {x y : VT} (h : ItemsAt t w lo G d us k) (hlo : lo ≤ w.heap.size) (hG : G = some ⟨g, o, none⟩) (hx : t.xs[k]? = some x) (hb : Bel w w') (hy : y.In w' (fun g => w.heap.size ≤ g ∧ g < w'.heap.size)) (hp : y.plain = x.plain) :
    ItemsAt t (setC w' g (o + (k * 6 + 0)) y.cs) lo G d (us ++ [y]) (k + 1) := by
  have h1 := h.bel hb
  have hkl := (List.getElem?_eq_some_iff.1 hx).1
  have hat : (us ++ t.xs.drop k)[k]? = some x := by
    rw [List.getElem?_append_right (by rw [h.len]; omega), h.len, Nat.sub_self, List.getElem?_drop]; exact hx
  have hr := h1.row.setC csLen hG (i := k) (p := 0) (a := y) (b := x) (vs := y.cs) (by rw [csLen]; omega) hat (set6_at y x)
  have hl : (us ++ t.xs.drop k).set k y = (us ++ [y]) ++ t.xs.drop (k + 1) := by
    rw [List.drop_eq_getElem_cons hkl, List.set_append_right _ _ (by rw [h.len]; omega), h.len, Nat.sub_self, List.set_cons_zero]
    simp
  rw [hl] at hr
  have ho := only_setC (g := g) y.cs w' (o + (k * 6 + 0))
  have hgl : g < w.heap.size := h.row.lt g (by rw [hG]; simp [rowT])
  refine ⟨by rw [List.length_append, h.len]; rfl, hr, h.own, fun u hu => ?_, push_eq h.len hx hp h.eq⟩
  rcases List.mem_append.1 hu with hu | hu
  · exact (h1.ins u hu).only ho (fun g' hg' => by simp at hg'; subst hg'; exact .inr (.inl (by rw [hG]; simp [rowT])))
  · simp at hu
    subst hu
    exact hy.only ho (fun g' hg' => ⟨by simp; omega, hg'.2⟩) (fun g' hg' => ⟨by omega, by rw [setC_size]; exact hg'.2, by rw [hG]; simp [rowT]; omega⟩)
/-- One more field. -/
theorem FieldsAt.push {t : VT} {w w' : World} {lo : Nat} {G : Option Addr} {d g o : Nat} {us : List VT} {k : Nat} {x y : VT} {key : ByteArray} (h : FieldsAt t w lo G d us k) (hlo : lo ≤ w.heap.size) (hG : G = some ⟨g, o, none⟩) (hk : t.ks[k]? = some key) (hx : t.vs[k]? = some x) (hb : Bel w w') (hy : y.In w' (fun g => w.heap.size ≤ g ∧ g < w'.heap.size)) (hp : y.plain = x.plain) :
    FieldsAt t (setC w' g (o + (k * 7 + 1)) y.cs) lo G d (us ++ [y]) (k + 1) := by
  have h1 := h.bel hb
  have hkk := (List.getElem?_eq_some_iff.1 hk).1
  have hz : (t.ks.zip t.vs)[k]? = some (key, x) := by rw [List.getElem?_zip_eq_some]; exact ⟨hk, hx⟩
  have hzl := (List.getElem?_eq_some_iff.1 hz).1
  have hlz : ((t.ks.take k).zip us).length = k := by rw [List.length_zip, List.length_take, h.len]; omega
  have hat : ((t.ks.take k).zip us ++ (t.ks.zip t.vs).drop k)[k]? = some (key, x) := by
    rw [List.getElem?_append_right (by omega), hlz, Nat.sub_self, List.getElem?_drop]; exact hz
  have hr := h1.row.setC fF_len hG (i := k) (p := 1) (a := (key, y)) (b := (key, x)) (vs := y.cs) (by rw [csLen]; omega) hat (set7_at key y x)
  have hl : ((t.ks.take k).zip us ++ (t.ks.zip t.vs).drop k).set k (key, y) = (t.ks.take (k + 1)).zip (us ++ [y]) ++ (t.ks.zip t.vs).drop (k + 1) := by
    rw [List.drop_eq_getElem_cons hzl, List.set_append_right _ _ (by omega), hlz, Nat.sub_self, List.set_cons_zero, List.take_add_one, hk]
    show _ = (t.ks.take k ++ [key]).zip (us ++ [y]) ++ _
    rw [List.zip_append (by rw [List.length_take, h.len]; omega)]
    simp
  rw [hl] at hr
  have ho := only_setC (g := g) y.cs w' (o + (k * 7 + 1))
  have hgl : g < w.heap.size := h.row.lt g (by rw [hG]; simp [rowT])
  refine ⟨by rw [List.length_append, h.len]; rfl, hr, h.own, fun u hu => ?_, push_eq h.len hx hp h.eq⟩
  rcases List.mem_append.1 hu with hu | hu
  · exact (h1.ins u hu).only ho (fun g' hg' => by simp at hg'; subst hg'; exact .inr (.inl (by rw [hG]; simp [rowT])))
  · simp at hu
    subst hu
    exact hy.only ho (fun g' hg' => ⟨by simp; omega, hg'.2⟩) (fun g' hg' => ⟨by omega, by rw [setC_size]; exact hg'.2, by rw [hG]; simp [rowT]; omega⟩)
/-- The next item's cells. -/
theorem ItemsAt.cells {t : VT} {w : World} {lo : Nat} {G : Option Addr} {d : Nat} {us : List VT} {k : Nat} {x : VT} (h : ItemsAt t w lo G d us k) (hx : t.xs[k]? = some x) : ∃ g o, G = some ⟨g, o, none⟩ ∧ g < w.heap.size ∧ lo ≤ g ∧ x.Cells w g (o + k * 6) := by
  have hat : (us ++ t.xs.drop k)[k]? = some x := by
    rw [List.getElem?_append_right (by rw [h.len]; omega), h.len, Nat.sub_self, List.getElem?_drop]; exact hx
  obtain ⟨g, o, e, hg, hc⟩ := h.row.at_ csLen hat (by omega)
  exact ⟨g, o, e, hg, h.own g (by rw [e]; simp [rowT]), hc 0 _ rfl, hc 1 _ rfl, hc 2 _ rfl, hc 3 _ rfl, hc 4 _ rfl, hc 5 _ rfl⟩
theorem FieldsAt.cells {t : VT} {w : World} {lo : Nat} {G : Option Addr} {d : Nat} {us : List VT} {k : Nat} {x : VT} {key : ByteArray} (h : FieldsAt t w lo G d us k) (hk : t.ks[k]? = some key) (hx : t.vs[k]? = some x) :
    ∃ g o, G = some ⟨g, o, none⟩ ∧ g < w.heap.size ∧ lo ≤ g ∧ w.cell? ⟨g, o + k * 7, none⟩ = some (.string key) ∧ x.Cells w g (o + k * 7 + 1) := by
  have hz : (t.ks.zip t.vs)[k]? = some (key, x) := by rw [List.getElem?_zip_eq_some]; exact ⟨hk, hx⟩
  have hkk := (List.getElem?_eq_some_iff.1 hk).1
  have hlz : ((t.ks.take k).zip us).length = k := by rw [List.length_zip, List.length_take, h.len]; omega
  have hat : ((t.ks.take k).zip us ++ (t.ks.zip t.vs).drop k)[k]? = some (key, x) := by
    rw [List.getElem?_append_right (by omega), hlz, Nat.sub_self, List.getElem?_drop]; exact hz
  obtain ⟨g, o, e, hg, hc⟩ := h.row.at_ fF_len hat (by omega)
  exact ⟨g, o, e, hg, h.own g (by rw [e]; simp [rowT]), hc 0 _ rfl, hc 1 _ rfl, hc 2 _ rfl, hc 3 _ rfl, hc 4 _ rfl, hc 5 _ rfl, hc 6 _ rfl⟩
/-- The clone's tree. -/
theorem clone_done {t : VT} {w w1 w2 W : World} {Q : Nat → Prop} (hI : t.In w Q) {lo1 lo2 : Nat} {G G2 : Option Addr} {d d2 : Nat} {us fs : List VT} (h1 : ItemsAt t w1 lo1 G d us t.xs.length) (hb : Only [w.heap.size] w1 w2) (h2 : FieldsAt t w2 lo2 G2 d2 fs t.vs.length)
    (hl1 : w.heap.size + 2 ≤ lo1) (hl2 : w.heap.size + 2 ≤ lo2) (hB : Bel w w2) (ho : Only [w.heap.size, w.heap.size + 1] w2 W) :
    ClR t w (.returned (.agg #[.int .i64 t.k, .string t.s, .int .i64 t.n, .bool t.b, .slice G us.length d, .slice G2 fs.length d2])) W := by
  have h1b := h1.only hb (fun g hg => by simp at hg; omega)
  have k1 := h1b.only ho (fun g hg => by simp at hg; omega)
  have k2 := h2.only ho (fun g hg => by simp at hg; omega)
  have hx : us.length = t.xs.length := h1.len
  have hv : fs.length = t.vs.length := h2.len
  have hby := hI.bytes
  have hkl := hI.bounds.2.2.2.2.2.2.2
  refine ⟨.mk t.k t.s t.n t.b G d us G2 d2 t.ks fs, rfl, bel_on hB ho (fun k hk => by simp at hk; omega), ?_, ?_⟩
  · cases hI with
    | mk _ hk hn hs hc hd _ _ _ _ _ hks =>
      have r1 := k1.row
      rw [List.drop_length, List.append_nil] at r1
      have r2 := k2.row
      have hlz : (t.ks.zip t.vs).length = t.vs.length := by rw [List.length_zip]; omega
      rw [List.drop_of_length_le (by omega), List.append_nil, List.take_of_length_le (by omega)] at r2
      have hlz2 : (t.ks.zip fs).length = fs.length := by rw [List.length_zip]; omega
      refine .mk _ hk hn hs ⟨?_, r1.max, ?_⟩ ⟨?_, r2.max, ?_⟩ (by show t.ks.length = fs.length; omega) (fun h0 => ?_) (fun h0 => ?_) (fun x hx => ?_) (fun x hx => ?_) hks
      · exact r1.le
      · show us.length * 88 ≤ reachBytes; unfold reachBytes; omega
      · have := r2.le; rw [hlz2] at this; exact this
      · show fs.length * 104 ≤ reachBytes; unfold reachBytes; omega
      · have h0' : 0 < us.length := h0
        obtain ⟨g, o, hA, hg⟩ := KRow.addr r1 (by have := r1.le; omega)
        refine ⟨g, o, hA, ⟨by have := k1.own g (by rw [hA]; simp [rowT]); omega, hg⟩, fun i x hx => ?_⟩
        obtain ⟨g', o', hA', _, hc⟩ := r1.at_ csLen (show us[i]? = some x from hx) (by omega)
        rw [hA] at hA'
        injection hA' with hA'
        injection hA' with e1 e2
        subst e1 e2
        exact ⟨hc 0 _ rfl, hc 1 _ rfl, hc 2 _ rfl, hc 3 _ rfl, hc 4 _ rfl, hc 5 _ rfl⟩
      · have h0' : 0 < fs.length := h0
        obtain ⟨g, o, hA, hg⟩ := KRow.addr r2 (by have := r2.le; omega)
        refine ⟨g, o, hA, ⟨by have := k2.own g (by rw [hA]; simp [rowT]); omega, hg⟩, fun i x key hk hx => ?_⟩
        have hz : (t.ks.zip fs)[i]? = some (key, x) := by rw [List.getElem?_zip_eq_some]; exact ⟨hk, hx⟩
        obtain ⟨g', o', hA', _, hc⟩ := r2.at_ fF_len hz (by omega)
        rw [hA] at hA'
        injection hA' with hA'
        injection hA' with e1 e2
        subst e1 e2
        exact ⟨hc 0 _ rfl, hc 1 _ rfl, hc 2 _ rfl, hc 3 _ rfl, hc 4 _ rfl, hc 5 _ rfl, hc 6 _ rfl⟩
      · exact VT.In.only (k1.ins x hx) (Only.refl [] _) (fun g hg => ⟨by simp, hg.2.1⟩) (fun g hg => ⟨by have := hg.1; omega, hg.2.1⟩)
      · exact VT.In.only (k2.ins x hx) (Only.refl [] _) (fun g hg => ⟨by simp, hg.2.1⟩) (fun g hg => ⟨by have := hg.1; omega, hg.2.1⟩)
  · rw [VT.plain_eq, VT.plain_eq t]
    have e1 : us.map VT.plain = t.xs.map VT.plain := by
      apply List.ext_getElem?
      intro i
      rw [List.getElem?_map, List.getElem?_map]
      by_cases hi : i < us.length
      · rw [← h1.eq i _ (List.getElem?_eq_getElem hi), List.getElem?_eq_getElem hi]; rfl
      · rw [List.getElem?_eq_none (by omega), List.getElem?_eq_none (by omega)]
    have e2 : fs.map VT.plain = t.vs.map VT.plain := by
      apply List.ext_getElem?
      intro i
      rw [List.getElem?_map, List.getElem?_map]
      by_cases hi : i < fs.length
      · rw [← h2.eq i _ (List.getElem?_eq_getElem hi), List.getElem?_eq_getElem hi]; rfl
      · rw [List.getElem?_eq_none (by omega), List.getElem?_eq_none (by omega)]
    show PV.mk t.k t.s t.n t.b (us.map VT.plain) t.ks (fs.map VT.plain) = _
    rw [e1, e2]
end Go.Proofs.Ytollcekcmnokaaa
