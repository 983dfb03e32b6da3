/-
  Contract: toMap.
-/
import Derived.Test.YtmgnomahnndeaaaDoorTo9
import Derived.Test.YtmgnomahnndeaaaDoorRegion2
import Derived.Test.YtmgnomahnndeaaaDoorRefEq
namespace Go.Proofs.YtmgnomahnndeaaaDoor
open Go.RowKit Go.BigFrame Go.Maps Go.WideMaps
set_option linter.unusedVariables false
set_option linter.unusedSimpArgs false
theorem strKeys_put {H : Type} {D : DataW H} (hm : IsMap D) {x : List UInt8} {d : DataW H} (hx : x ∉ strKeys D) : (strKeys (D.put (.string x) d)).Perm (x :: strKeys D) := by
  obtain ⟨es, rfl⟩ := hm
  have hf : es.filter (fun p => !p.1.sameKey (.string x)) = es := by
    rw [List.filter_eq_self]
    intro p hp
    cases hs : p.1.sameKey (.string x) with
    | false => rfl
    | true =>
      exfalso
      have e := WideAt.sameKey_eq hs
      refine hx (List.mem_map.2 ⟨p, hp, ?_⟩)
      show strOf p.1 = x
      rw [e]; rfl
  show (strKeys (.map (DataW.insert (.string x, d) (es.filter fun p => !p.1.sameKey (.string x))))).Perm _
  rw [hf]
  exact (Go.WideShapes.insert_perm (.string x, d) es).map fun p => strOf p.1
theorem run_makeMap_n (T K E : TypeId) (n : Int) (ht : Tryd.prog.underlying T = some (.map K E)) (w : World) : (Instr.makeMap T (some (.int .i64 n))).run Tryd.prog w = .ok (.map (some w.heap.size)) (w.alloc (.map #[] 0)) := by
  simp [Instr.makeMap, run_underlying ht]; rfl
theorem run_mapUpdate_op {a : Act} {o : Oper} {T : TypeId} {m x v : Operand} (hop : o.op = .mapUpdate T m x v) {M : Nat} {key val : Value} {w w1 : World} (hm : a.eval m = .map (some M)) (hx : a.eval x = key) (hv : a.eval v = val)
    (h : (Instr.mapUpdate T (.map (some M)) key val).run Tryd.prog w = .ok () w1) : (execOp a.eval o).run Tryd.prog w = .ok .skip w1 := by
  simp [execOp, hop, hm, hx, hv, h, Result.andThen]
/-- The map of the first fields. -/
def MapIs (w : World) (M : Nat) (ks : List ByteArray) (us : List AT) (k : Nat) : Prop :=
  ∃ D : DataW Value, w.ownsMap Tryd.prog 9 AT.RV M k D ∧ (strKeys D).Perm ((ks.take k).map kL) ∧ ∀ (i : Nat) (key : ByteArray) (a : AT), i < k → ks[i]? = some key → us[i]? = some a → ∀ z, D.atKey (.string (kL key)) z = .held a.val
theorem MapIs.bel {w w' : World} {M : Nat} {ks : List ByteArray} {us : List AT} {k : Nat} (h : MapIs w M ks us k) (hb : Bel w w') : MapIs w' M ks us k := by
  obtain ⟨D, h1, h2⟩ := h
  exact ⟨D, ownsMap_bel h1 hb, h2⟩
theorem MapIs.start (w : World) (ks : List ByteArray) : MapIs (w.alloc (.map #[] 0)) w.heap.size ks [] 0 :=
  ⟨_, World.ownsMap_made _ _ _ _, List.Perm.refl _, fun i key a hi => absurd hi (Nat.not_lt_zero _)⟩
/-- One more field is stored. -/
theorem MapIs.push {w : World} {M : Nat} {ks : List ByteArray} {us : List AT} {k : Nat} {key : ByteArray} {a : AT} (h : MapIs w M ks us k) (hn : ks.Nodup) (hk : ks[k]? = some key) (hks : key.size ≤ maxLen) (hu : us.length = k) (hlt : k < maxLen) :
    ∃ w', (Instr.mapUpdate 54 (.map (some M)) (.string key) a.val).run Tryd.prog w = .ok () w' ∧ MapIs w' M ks (us ++ [a]) (k + 1) ∧ w.grownBy w' (some M) := by
  obtain ⟨D, h1, h2, h3⟩ := h
  have hkey : keyOf Tryd.prog 9 (.string key) = some (.string (kL key)) := keyOf_string_mk Tryd.underlying9 hks
  obtain ⟨w', hrun, hown, hg⟩ := h1.update keyLaw Tryd.underlying54 hlt hkey (val := a.val) (show AT.RV _ = some (.held a.val, []) from rfl)
  have hnew : kL key ∉ strKeys D := by
    intro hm
    obtain ⟨key', hm', e⟩ := List.mem_map.1 (h2.mem_iff.1 hm)
    have e := kL_inj e
    subst e
    obtain ⟨j, hj, e⟩ := List.getElem_of_mem hm'
    rw [List.length_take] at hj
    rw [List.getElem_take] at e
    have hjk : ks[j]? = some key' := by rw [List.getElem?_eq_getElem (by omega), e]
    have := idx_of_nodup hn hjk hk
    omega
  refine ⟨w', hrun, ⟨_, hown, ?_, fun i key' b hi hk' hb z => ?_⟩, hg⟩
  · refine (strKeys_put h1.isMap hnew).trans ?_
    have e : ks.take (k + 1) = ks.take k ++ [key] := by rw [List.take_add_one, hk]; rfl
    rw [e, List.map_append]
    exact (List.Perm.cons _ h2).trans (List.perm_append_comm (l₁ := [kL key]))
  · by_cases hi2 : i < k
    · rw [List.getElem?_append_left (by omega)] at hb
      have hne : (Lit.string (kL key')) ≠ Lit.string (kL key) := by
        intro e
        injection e with e
        have e := kL_inj e
        subst e
        have := idx_of_nodup hn hk' hk
        omega
      rw [atKey_put_other hne]
      exact h3 i key' b hi2 hk' hb z
    · have e : i = k := by omega
      subst e
      have hb' : (us ++ [a])[i]? = some a := by rw [← hu]; exact List.getElem?_concat_length
      obtain rfl : a = b := Option.some.inj (hb'.symm.trans hb)
      obtain rfl : key = key' := Option.some.inj (hk.symm.trans hk')
      rw [atKey_put_same h1.isMap (by simp [WideAt.IsKeyLit])]
/-- What toMap gives. -/
def MpR (m : Nat) (ks : List ByteArray) (vs : List VT) (w : World) (e : Ending) (w' : World) : Prop :=
  ∃ (B : Nat) (us : List AT), e = .returned (.map (some B)) ∧ Bel w w' ∧ (AT.map B ks us).In w' (fun g => w.heap.size ≤ g ∧ g < w'.heap.size) ∧ (∀ a, a ∈ us → a.hle m) ∧ us.length = vs.length ∧
    ∀ (i : Nat) (a : AT), us[i]? = some a → a.conv = (vs[i]?).map fun t => t.plain.sort
set_option maxRecDepth 100000 in
set_option maxHeartbeats 800000 in
theorem toMap_c (m : Nat) (F : Option Addr) (c : Nat) (ks : List ByteArray) (vs : List VT) (w : World) (hc : vs.length ≤ c ∧ c ≤ maxLen ∧ vs.length * 104 ≤ reachBytes) (hl : ks.length = vs.length) (hnd : ks.Nodup) (hks : ∀ key, key ∈ ks → key.size ≤ reachBytes)
    (hF : 0 < vs.length → ∃ g o, F = some ⟨g, o, none⟩ ∧ g < w.heap.size ∧ ∀ i (x : VT) key, ks[i]? = some key → vs[i]? = some x → w.cell? ⟨g, o + i * 7, none⟩ = some (.string key) ∧ x.Cells w g (o + i * 7 + 1))
    (hE : ∀ x, x ∈ vs → ∀ W, Bel w W → Calls Tryd.prog 25 #[.agg #[.int .i64 x.k, .string x.s, .int .i64 x.n, .bool x.b, .slice x.A x.xs.length x.c, .slice x.F x.vs.length x.d]] W (ToR m x W)) :
    Calls Tryd.prog 45 #[.slice F vs.length c] w (MpR m ks vs w) := by
  obtain ⟨hc1, hc2, hc3⟩ : vs.length ≤ c ∧ c ≤ 9223372036854775807 ∧ vs.length * 104 ≤ 140737488351232 := hc
  obtain ⟨n, hn⟩ : ∃ n, n = vs.length := ⟨_, rfl⟩
  rw [← hn] at hc1 hc3 hF hl ⊢
  have hmm := fun N => run_makeMap_n 54 9 20 N Tryd.underlying54
  have HADR := Lib.hid hF
  have HE := Lib.hid hE
  have HN := Lib.hid hn
  have HKL := Lib.hid hl
  have HND := Lib.hid hnd
  have HKS := Lib.hid hks
  have HM := Lib.hid (MapIs.start w ks)
  have HW0 : Hid (Bel w (w.alloc (.map #[] 0))) := Lib.hid (Bel.alloc _ _)
  clear hE hF hn hl hnd hks
  go_enter Tryd.func45, Tryd.ntmps45
  go_wp2_with fail
  go_loopw [11] (fun s11 wr => ∃ (k : Nat) (us : List AT), k ≤ n ∧ s11 = .int .i64 k ∧ us.length = k ∧ Hid (Bel w wr) ∧ Hid (w.heap.size < wr.heap.size) ∧ Hid (MapIs wr w.heap.size ks us k) ∧
      Hid (∀ (i : Nat) (a : AT), us[i]? = some a → a.In wr (fun g => w.heap.size + 1 ≤ g ∧ g < wr.heap.size) ∧ a.hle m ∧ a.conv = (vs[i]?).map fun t => t.plain.sort)) (fun s11 _ => n - (intOf s11).toNat)
  case atStart => exact ⟨0, [], Nat.zero_le _, rfl, rfl, HW0, Lib.hid (by simp), HM, Lib.hid (fun i a hi => by simp at hi)⟩
  case round =>
    obtain ⟨k, us, hk, rfl, hts, HB, HSZ, HMAP, HAS⟩ := hrel
    by_cases hlt : k < n
    · have hkx : k < vs.length := by have := HN.out; omega
      have hkk : k < ks.length := by have := HKL.out; omega
      obtain ⟨g, o, hAA, hg, hcell⟩ := HADR.out (by omega)
      have hxk := List.getElem?_eq_getElem hkx
      have hyk := List.getElem?_eq_getElem hkk
      obtain ⟨c6, c0, c1, c2, c3, c4, c5⟩ := hcell k _ _ hyk hxk
      have c6 := (HB.out.cell hg).trans c6
      have c0 := (HB.out.cell hg).trans c0
      have c1 := (HB.out.cell hg).trans c1
      have c2 := (HB.out.cell hg).trans c2
      have c3 := (HB.out.cell hg).trans c3
      have c4 := (HB.out.cell hg).trans c4
      have c5 := (HB.out.cell hg).trans c5
      have hE1 := HE.out _ (List.getElem_mem hkx)
      have hk1 : (ks[k]).size ≤ maxLen := by have : (ks[k]).size ≤ 140737488351232 := HKS.out _ (List.getElem_mem hkk); unfold maxLen; omega
      have HXK := Lib.hid hxk
      have HYK := Lib.hid hyk
      rw [hAA]
      clear hcell hxk hyk
      generalize vs[k] = x at *
      generalize ks[k] = key at *
      have HK1 := Lib.hid hk1
      have HTS := Lib.hid hts
      clear hts hk1
      go_wp2_with fail
      have hblk := Blk.new wr 57 [.string key, .int .i64 x.k, .string x.s, .int .i64 x.n, .bool x.b, .slice x.A x.xs.length x.c, .slice x.F x.vs.length x.d]
      have hbw : Bel w (wr.alloc (.cells #[.string key, .int .i64 x.k, .string x.s, .int .i64 x.n, .bool x.b, .slice x.A x.xs.length x.c, .slice x.F x.vs.length x.d] 57)).drew := HB.out.trans ((Bel.alloc _ _).trans (Bel.drew _))
      have hbr : Bel wr (wr.alloc (.cells #[.string key, .int .i64 x.k, .string x.s, .int .i64 x.n, .bool x.b, .slice x.A x.xs.length x.c, .slice x.F x.vs.length x.d] 57)).drew := (Bel.alloc _ _).trans (Bel.drew _)
      refine region_begin (T := [w.heap.size]) (by kernel_rfl) ?_
      have hblk' := hblk.drew
      have hne : w.heap.size ≠ wr.heap.size := by have := HSZ.out; omega
      have hvs : wr.heap.size < (wr.alloc (.cells #[.string key, .int .i64 x.k, .string x.s, .int .i64 x.n, .bool x.b, .slice x.A x.xs.length x.c, .slice x.F x.vs.length x.d] 57)).drew.heap.size := hblk'.lt
      generalize (wr.alloc (.cells #[.string key, .int .i64 x.k, .string x.s, .int .i64 x.n, .bool x.b, .slice x.A x.xs.length x.c, .slice x.F x.vs.length x.d] 57)).drew = V at hbw hbr hblk' hvs ⊢
      have b0 : ∀ y : Later [w.heap.size] V, y.w.cell? ⟨wr.heap.size, 0, none⟩ = some (.string key) := fun y => (only_cell y.h hvs (by simp; omega)).trans (hblk'.cell 0)
      have b1 : ∀ y : Later [w.heap.size] V, y.w.cell? ⟨wr.heap.size, 1, none⟩ = some (.int .i64 x.k) := fun y => (only_cell y.h hvs (by simp; omega)).trans (hblk'.cell 1)
      have b2 : ∀ y : Later [w.heap.size] V, y.w.cell? ⟨wr.heap.size, 2, none⟩ = some (.string x.s) := fun y => (only_cell y.h hvs (by simp; omega)).trans (hblk'.cell 2)
      have b3 : ∀ y : Later [w.heap.size] V, y.w.cell? ⟨wr.heap.size, 3, none⟩ = some (.int .i64 x.n) := fun y => (only_cell y.h hvs (by simp; omega)).trans (hblk'.cell 3)
      have b4 : ∀ y : Later [w.heap.size] V, y.w.cell? ⟨wr.heap.size, 4, none⟩ = some (.bool x.b) := fun y => (only_cell y.h hvs (by simp; omega)).trans (hblk'.cell 4)
      have b5 : ∀ y : Later [w.heap.size] V, y.w.cell? ⟨wr.heap.size, 5, none⟩ = some (.slice x.A x.xs.length x.c) := fun y => (only_cell y.h hvs (by simp; omega)).trans (hblk'.cell 5)
      have b6 : ∀ y : Later [w.heap.size] V, y.w.cell? ⟨wr.heap.size, 6, none⟩ = some (.slice x.F x.vs.length x.d) := fun y => (only_cell y.h hvs (by simp; omega)).trans (hblk'.cell 6)
      refine region_seg [true, true, true, true, true] 2 (by kernel_rfl) (by kernel_rfl) (by kernel_rfl) rfl (fun _ _ d _ _ h => by cases d <;> exact h) ?_
      repeat (first | with_reducible refine wpMask_pass ?_ | (refine wpMask_want (by rfl) (fun K hK => ?_); go_big_quiet_op; refine hK _ ?_; clear hK K))
      with_reducible refine wpMask_nil ?_
      clear b0 b1 b2 b3 b4 b5 b6
      refine region_call 5 (by kernel_rfl) rfl (by rfl) (by go_simp; exact ⟨rfl, rfl⟩) ?_
      refine (hE1 V hbw).mono ?_
      rintro e w2 ⟨a, rfl, hb, ha, hh, hcv⟩
      refine ⟨_, rfl, (bel_only hb).more (by simp), ?_⟩
      obtain ⟨w3, hrun, hmap, hgr⟩ := (HMAP.out.bel (hbr.trans hb)).push (a := a) HND.out HYK.out HK1.out HTS.out (by have := HKL.out; unfold maxLen; omega)
      simp only [List.getElem_toArray, List.getElem_cons_zero, List.getElem_cons_succ, Act.put, List.setIfInBounds_toArray, List.set_cons_zero, List.set_cons_succ]
      have ho3 : Only [w.heap.size] w2 w3 := (Only.refl [w.heap.size] w2).grown hgr (fun k hk => by injection hk with hk; subst hk; exact .inl (by simp))
      refine region_store 6 (by kernel_rfl) rfl (by rfl) (w1 := w3) (run_mapUpdate_op rfl rfl rfl rfl hrun) ho3 ?_
      refine region_end (by kernel_rfl) ?_
      simp only [List.getElem_toArray, List.getElem_cons_zero, List.getElem_cons_succ, Act.put, List.setIfInBounds_toArray, List.set_cons_zero, List.set_cons_succ]
      have HB2 := Lib.hid (hbw.trans hb)
      have HBR := Lib.hid (hbr.trans hb)
      have HVS := Lib.hid hvs
      have HO3 := Lib.hid ho3
      have HIN := Lib.hid ha
      have HH := Lib.hid hh
      have HCV := Lib.hid hcv
      have HMP := Lib.hid hmap
      clear hbw hbr hb ho3 ha hh hcv hmap hrun hgr hblk' hblk c0 c1 c2 c3 c4 c5 c6
      go_wp2_with fail
      have HB3 := Lib.hid (bel_on1 HB2.out HO3.out (Nat.le_refl _))
      have HSW : Hid (wr.heap.size ≤ w2.heap.size) := Lib.hid HBR.out.size
      have HS3 : Hid (w2.heap.size ≤ w3.heap.size) := Lib.hid HO3.out.size
      have HAS' : Hid (∀ (i : Nat) (b : AT), (us ++ [a])[i]? = some b → b.In w3 (fun g => w.heap.size + 1 ≤ g ∧ g < w3.heap.size) ∧ b.hle m ∧ b.conv = (vs[i]?).map fun t => t.plain.sort) := Lib.hid (fun i b hb => by
        have htl := HTS.out
        have hsz := HSZ.out
        have hsw := HSW.out
        have hs3 := HS3.out
        have hvs := HVS.out
        by_cases hi2 : i < us.length
        · rw [List.getElem?_append_left hi2] at hb
          obtain ⟨h2, h3, h4⟩ := HAS.out i b hb
          exact ⟨(h2.only (bel_only HBR.out) (fun g hg => ⟨by simp, hg.2⟩) (Q' := fun g => w.heap.size + 1 ≤ g ∧ g < w2.heap.size) (fun g hg => ⟨hg.1, by omega⟩)).only HO3.out (fun g hg => ⟨by simp; omega, hg.2⟩) (fun g hg => ⟨hg.1, by omega⟩), h3, h4⟩
        · have e : i = us.length := by
            have := (List.getElem?_eq_some_iff.1 hb).1
            simp at this
            omega
          rw [e] at hb ⊢
          simp at hb
          subst hb
          refine ⟨HIN.out.only HO3.out (fun g hg => ⟨by simp; omega, hg.2⟩) (fun g hg => ⟨by omega, by omega⟩), HH.out, ?_⟩
          rw [htl, HXK.out]
          exact HCV.out)
      go_roundw
      case rel => exact ⟨k + 1, us ++ [a], by omega, by go_num, by rw [List.length_append, HTS.out]; rfl, HB3, Lib.hid (by have h1 := HSZ.out; have h2 := HSW.out; have h3 := HS3.out; omega), HMP, HAS'⟩
      case measure => simp [intOf]; omega
    · obtain rfl : n = k := by omega
      go_wp2_with fail
      go_ret
      have hul : us.length = vs.length := hts.trans HN.out
      have hkl := HKL.out
      obtain ⟨D, h1, h2, h3⟩ := HMAP.out
      rw [List.take_of_length_le (by omega)] at h2
      refine ⟨w.heap.size, us, rfl, HB.out, .map _ _ _ ⟨Nat.le_refl _, HSZ.out⟩ (by omega) HND.out (by omega) ⟨_, D, h1, h2, fun i key a hk ha => h3 i key a (by have := (List.getElem?_eq_some_iff.1 ha).1; omega) hk ha⟩ HKS.out (fun a ha => ?_), fun a ha => ?_, hul, fun i a ha => (HAS.out i a ha).2.2⟩
      · obtain ⟨i, hi, rfl⟩ := List.getElem_of_mem ha
        exact (HAS.out i _ (List.getElem?_eq_getElem hi)).1.only (Only.refl [] _) (fun g hg => ⟨by simp, hg.2⟩) (fun g hg => ⟨by omega, hg.2⟩)
      · obtain ⟨i, hi, rfl⟩ := List.getElem_of_mem ha
        exact (HAS.out i _ (List.getElem?_eq_getElem hi)).2.1
end Go.Proofs.YtmgnomahnndeaaaDoor
