/-
  Contracts: value.checkFields, value.check, value.Check.
-/
import Derived.Test.YtollcekcmnokaaaChk9
namespace Go.Proofs.Ytollcekcmnokaaa
open Go.RowKit Go.BigFrame Go.Maps Go.WideMaps
set_option linter.unusedVariables false
set_option linter.unusedSimpArgs false

theorem keyLaw : Keyed Try.prog 9 := string_keyed Try.underlying9
theorem zeroBool (w : World) : (zeroValue 4).run Try.prog w = .ok (.bool false) w := by kernel_rfl
/-- The number that a field gives. -/
def fieldN (t : VT) (g : Nat → Int) (i : Nat) : Int := if !nameB (t.key i) then 11 else if t.twice i then 12 else g i
/-- The map holds just the keys of the fields before k. -/
def SeenIs (D : DataW Unit) (t : VT) (k : Nat) : Prop := ∀ key : ByteArray, D.atKey (.string key.data.toList) (.lit (.bool false)) = .lit (.bool (decide (∃ j, j < k ∧ t.key j = key)))
theorem seen_start (t : VT) : SeenIs (.map []) t 0 := fun key => by
  have : ¬ ∃ j, j < 0 ∧ t.key j = key := by rintro ⟨j, hj, _⟩; omega
  show (DataW.lit (.bool false) : DataW Unit) = _
  simp [this]
theorem seen_at {D : DataW Unit} {t : VT} {k : Nat} (h : SeenIs D t k) : D.atKey (.string (t.key k).data.toList) (.lit (.bool false)) = .lit (.bool (t.twice k)) := by
  rw [h (t.key k)]
  have e : t.twice k = decide (∃ j, j < k ∧ t.key j = t.key k) := by
    unfold VT.twice
    rw [decide_eq_decide]
    exact Iff.rfl
  rw [e]
theorem seen_step {D : DataW Unit} {t : VT} {k : Nat} (hm : IsMap D) (h : SeenIs D t k) : SeenIs (D.put (.string (t.key k).data.toList) (.lit (.bool true))) t (k + 1) := fun key => by
  by_cases e : key = t.key k
  · subst e
    rw [atKey_put_same hm (by simp [WideAt.IsKeyLit])]
    have : ∃ j, j < k + 1 ∧ t.key j = t.key k := ⟨k, by omega, rfl⟩
    simp [this]
  · have hne : Lit.string key.data.toList ≠ Lit.string (t.key k).data.toList := by
      intro h
      injection h with h
      exact e (toL_inj h)
    rw [atKey_put_other hne, h key]
    have : (∃ j, j < k ∧ t.key j = key) ↔ ∃ j, j < k + 1 ∧ t.key j = key := by
      constructor
      · rintro ⟨j, hj, hk⟩; exact ⟨j, by omega, hk⟩
      · rintro ⟨j, hj, hk⟩
        refine ⟨j, ?_, hk⟩
        by_cases e2 : j = k
        · subst e2; exact absurd hk.symm e
        · omega
    simp only [this]
theorem fieldN_name {t : VT} {g : Nat → Int} {i : Nat} (h : nameB (t.key i) = false) : fieldN t g i = 11 := by unfold fieldN; rw [h]; rfl
theorem fieldN_twice {t : VT} {g : Nat → Int} {i : Nat} (h : nameB (t.key i) = true) (h2 : t.twice i = true) : fieldN t g i = 12 := by unfold fieldN; rw [h, h2]; rfl
theorem fieldN_val {t : VT} {g : Nat → Int} {i : Nat} (h : nameB (t.key i) = true) (h2 : t.twice i = false) : fieldN t g i = g i := by unfold fieldN; rw [h, h2]; rfl
theorem blk_grown {w w' : World} {b : Nat} {T : TypeId} {xs : List Value} {row : Option Nat} (h : Blk w b T xs) (hg : w.grownBy w' row) (hne : some b ≠ row) : Blk w' b T xs :=
  (hg.block b h.lt hne).trans h
theorem bel_grown {w w1 w2 : World} (h : Bel w w1) (hg : w1.grownBy w2 (some w.heap.size)) : Bel w w2 := Below.grown h hg h.size (fun j hj => by cases hj; exact Nat.le_refl _)

set_option maxRecDepth 100000 in
set_option maxHeartbeats 3200000 in
theorem checkFields_c (t : VT) (d : Nat) (hd : d ≤ 100) (g : Nat → Int) (w : World) (hI : t.In w (· < w.heap.size))
    (hg : ∀ i, i < t.vs.length → ∀ W, Bel w W → Calls Try.prog 32 #[.agg #[.int .i64 (t.value i).k, .string (t.value i).s, .int .i64 (t.value i).n, .bool (t.value i).b, .slice (t.value i).A (t.value i).xs.length (t.value i).c, .slice (t.value i).F (t.value i).vs.length (t.value i).d], .int .i64 d] W (IntPost (g i) W)) :
    Calls Try.prog 36 #[.slice t.F t.vs.length t.d, .int .i64 d] w (IntPost (first (fieldN t g) t.vs.length) w) := by
  obtain ⟨_, hx2⟩ := hI.lens
  obtain ⟨_, _, _, _, _, hd1, hd2, _⟩ := hI.bounds
  have HI := Lib.hid hI
  have HG := Lib.hid hg
  clear hI hg
  have hmm := @run_makeMap Try.prog
  obtain ⟨n, hn⟩ : ∃ n, n = t.vs.length := ⟨_, rfl⟩
  rw [← hn] at hx2 hd1 ⊢
  have HN := Lib.hid hn
  clear hn
  go_enter Try.func36, Try.ntmps36
  go_wp2_with fail
  go_loopw [12] (fun s12 wr => ∃ k : Nat, k ≤ n ∧ s12 = .int .i64 k ∧ Hid (Bel w wr) ∧ Hid (∃ D : DataW Unit, wr.ownsMap Try.prog 9 (plainElem Try.prog 4) w.heap.size k D ∧ SeenIs D t k) ∧ Hid (first (fieldN t g) k = 0)) (fun s12 _ => n - (intOf s12).toNat)
  case atStart => exact ⟨0, Nat.zero_le _, rfl, Lib.hid (Bel.alloc _ _), Lib.hid ⟨_, World.ownsMap_made _ _ _ _, seen_start t⟩, Lib.hid rfl⟩
  case round =>
    obtain ⟨k, hk, rfl, HB, HM, HF⟩ := hrel
    by_cases hlt : k < n
    · have hkv : k < t.vs.length := by have := HN.out; omega
      obtain ⟨gf, of, hFF, hgf, hcell⟩ := HI.out.fields (by omega)
      obtain ⟨c6, c0, c1, c2, c3, c4, c5⟩ := hcell k hkv
      have c6 := (HB.out.cell hgf).trans c6
      have c0 := (HB.out.cell hgf).trans c0
      have c1 := (HB.out.cell hgf).trans c1
      have c2 := (HB.out.cell hgf).trans c2
      have c3 := (HB.out.cell hgf).trans c3
      have c4 := (HB.out.cell hgf).trans c4
      have c5 := (HB.out.cell hgf).trans c5
      have hks := HI.out.keys hkv
      have HKS : Hid ((t.key k).size ≤ maxLen) := Lib.hid (by unfold maxLen; omega)
      have HNM := Lib.hid (fun W => isName_c (t.key k) HKS.out W)
      have HGK := Lib.hid (HG.out k hkv)
      obtain ⟨D, hown0, hseen⟩ := HM.out
      have HSN := Lib.hid (seen_at hseen)
      have HST := Lib.hid (seen_step (hown0.isMap) hseen)
      have HOWN := Lib.hid hown0
      have HKEY : Hid (keyOf Try.prog 9 (.string (t.key k)) = some (.string (t.key k).data.toList)) := Lib.hid (keyOf_string_mk Try.underlying9 HKS.out)
      have F1 : nameB (t.key k) = false → first (fieldN t g) t.vs.length = 11 := fun h => by
        have e := fieldN_name (g := g) h
        rw [first_hit HF.out (by rw [e]; decide) hkv, e]
      have F2 : nameB (t.key k) = true → t.twice k = true → first (fieldN t g) t.vs.length = 12 := fun h h2 => by
        have e := fieldN_twice (g := g) h h2
        rw [first_hit HF.out (by rw [e]; decide) hkv, e]
      have F3 : nameB (t.key k) = true → t.twice k = false → g k ≠ 0 → first (fieldN t g) t.vs.length = g k := fun h h2 h3 => by
        have e := fieldN_val (g := g) h h2
        rw [first_hit HF.out (by rw [e]; exact h3) hkv, e]
      have F4 : nameB (t.key k) = true → t.twice k = false → g k = 0 → first (fieldN t g) (k + 1) = 0 := fun h h2 h3 => first_step HF.out ((fieldN_val (g := g) h h2).trans h3)
      rw [← HN.out] at F1 F2 F3
      have HF1 := Lib.hid F1
      have HF2 := Lib.hid F2
      have HF3 := Lib.hid F3
      have HF4 := Lib.hid F4
      clear F1 F2 F3 F4 hseen hown0 hkv hcell hks
      rw [hFF]
      generalize t.value k = x at *
      generalize t.key k = key at *
      generalize t.twice k = tw at *
      generalize g k = r at *
      cases hnb : nameB key with
      | false =>
        have HR := Lib.hid (HF1.out hnb)
        rw [hnb] at HNM
        clear hnb
        go_wp2_with (go_at_call 16; refine (HNM.out _).mono ?_; rintro e w' ⟨rfl, rfl⟩)
        go_ret
        exact ⟨by rw [HR.out]; rfl, HB.out.trans (Bel.alloc _ _)⟩
      | true =>
        rw [hnb] at HNM
        cases htw : tw with
        | true =>
          have HR := Lib.hid (HF2.out hnb htw)
          have HAT : Hid (D.atKey (.string key.data.toList) (.lit (.bool false)) = .lit (.bool true)) := Lib.hid (by rw [HSN.out, htw])
          clear hnb htw
          go_wp2_with (first | (go_at_call 16; refine (HNM.out _).mono ?_; rintro e w' ⟨rfl, rfl⟩) | (at_lookup; refine wpList_lookup_own_bool _ rfl _ _ 55 rfl 9 4 keyLaw Try.underlying55 Try.underlying4 (zeroBool _) w.heap.size k D rfl (ownsMap_bel HOWN.out (Bel.alloc _ _)) _ _ rfl HKEY.out true HAT.out ?_))
          go_ret
          exact ⟨by rw [HR.out]; rfl, HB.out.trans (Bel.alloc _ _)⟩
        | false =>
          have HAT : Hid (D.atKey (.string key.data.toList) (.lit (.bool false)) = .lit (.bool false)) := Lib.hid (by rw [HSN.out, htw])
          have HR3 := Lib.hid (HF3.out hnb htw)
          have HR4 := Lib.hid (HF4.out hnb htw)
          clear hnb htw
          go_wp2_with (first | (go_at_call 16; refine (HNM.out _).mono ?_; rintro e w' ⟨rfl, rfl⟩) | (at_lookup; refine wpList_lookup_own_bool _ rfl _ _ 55 rfl 9 4 keyLaw Try.underlying55 Try.underlying4 (zeroBool _) w.heap.size k D rfl (ownsMap_bel HOWN.out (Bel.alloc _ _)) _ _ rfl HKEY.out false HAT.out ?_) | (at_mapUpdate; refine wpList_mapUpdate_own _ rfl _ _ _ 55 rfl 9 4 keyLaw Try.underlying55 _ w.heap.size k D rfl (ownsMap_bel HOWN.out (Bel.alloc _ _)) (by unfold maxLen; omega) _ _ _ rfl rfl HKEY.out _ [] (plainElem_bool Try.underlying4 true) ?_; intro w1 hown1 hgrow1; have hltm := HOWN.out.lt; have HX1 := blk_grown (Blk.new wr 49 [.string key, .int .i64 x.k, .string x.s, .int .i64 x.n, .bool x.b, .slice x.A x.xs.length x.c, .slice x.F x.vs.length x.d]) hgrow1 (by intro h; injection h with h; omega); have g0 := HX1.cell 0; have g1 := HX1.cell 1; have g2 := HX1.cell 2; have g3 := HX1.cell 3; have g4 := HX1.cell 4; have g5 := HX1.cell 5; have g6 := HX1.cell 6; have HB1 := Lib.hid (bel_grown (HB.out.trans (Bel.alloc wr (.cells #[.string key, .int .i64 x.k, .string x.s, .int .i64 x.n, .bool x.b, .slice x.A x.xs.length x.c, .slice x.F x.vs.length x.d] 49))) hgrow1); have HOWN1 := Lib.hid hown1; clear hown1 hgrow1 HX1 hltm c0 c1 c2 c3 c4 c5 c6) | (go_at_call 32; refine (HGK.out _ HB1.out).mono ?_; rintro e w2 ⟨rfl, hb⟩; have HB2 := Lib.hid (HB1.out.trans hb); have HOWN2 := Lib.hid (ownsMap_bel HOWN1.out hb); clear hb g0 g1 g2 g3 g4 g5 g6))
          · have h9 : (r != 0) = true := by assumption
            have HR := Lib.hid (HR3.out (by simpa using h9))
            go_ret
            exact ⟨by rw [HR.out]; rfl, HB2.out⟩
          · have h9 : (r != 0) = false := by assumption
            have HR := Lib.hid (HR4.out (by simpa using h9))
            go_roundw
            case rel => exact ⟨k + 1, by omega, by go_num, HB2, Lib.hid ⟨_, HOWN2.out, HST.out⟩, HR⟩
            case measure => simp [intOf]; omega
    · obtain rfl : n = k := by omega
      have HR : Hid (first (fieldN t g) n = 0) := HF
      go_wp2_with fail
      go_ret
      exact ⟨by rw [HR.out]; rfl, HB.out⟩
end Go.Proofs.Ytollcekcmnokaaa
