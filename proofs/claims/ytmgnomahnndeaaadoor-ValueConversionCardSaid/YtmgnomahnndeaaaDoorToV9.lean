/-
  Contract: To.
-/
import Derived.Test.YtmgnomahnndeaaaDoorToM9
namespace Go.Proofs.YtmgnomahnndeaaaDoor
open Go.RowKit Go.BigFrame Go.Maps Go.WideMaps
set_option linter.unusedVariables false
set_option linter.unusedSimpArgs false
theorem size_zero {s : ByteArray} (h : s.size = 0) : s = ByteArray.empty := by
  cases s with | mk a =>
  have : a = #[] := Array.eq_empty_of_size_eq_zero h
  subst this; rfl
/-- What a valid value looks like, kind by kind. -/
theorem ok_parts {t : VT} {d : Nat} (h : t.plain.ok d) : d ≤ 32 ∧ (0 ≤ t.k ∧ t.k ≤ 4) ∧ (t.k ≠ 0 → t.s = ByteArray.empty) ∧ (t.k ≠ 1 → t.n = 0) ∧ (t.k ≠ 2 → t.b = false) ∧ (t.k ≠ 3 → t.xs = []) ∧ (t.k ≠ 4 → t.vs = [] ∧ t.ks = []) ∧ t.ks.length = t.vs.length ∧ t.ks.Nodup ∧
    (∀ x, x ∈ t.xs → x.plain.ok (d + 1)) ∧ ∀ x, x ∈ t.vs → x.plain.ok (d + 1) := by
  rw [VT.plain_eq, PV.ok, PV.okL_iff, PV.okL_iff] at h
  obtain ⟨h1, h2, h3, h4, h5, h6, h7, h8, h9, _, h10, h11⟩ := h
  rw [List.length_map] at h8
  refine ⟨h1, h2, fun h => size_zero (h3 h), h4, h5, fun h => List.map_eq_nil_iff.1 (h6 h), fun h => ?_, h8, h9, fun x hx => h10 _ (List.mem_map_of_mem hx), fun x hx => h11 _ (List.mem_map_of_mem hx)⟩
  have e := List.map_eq_nil_iff.1 (h7 h)
  refine ⟨e, ?_⟩
  rw [e] at h8
  exact List.length_eq_zero_iff.1 h8
theorem sort_eq (t : VT) : t.plain.sort = .mk t.k t.s t.n t.b (t.xs.map fun x => x.plain.sort) ((sortF (t.ks.zip (t.vs.map fun x => x.plain.sort))).map (·.1)) ((sortF (t.ks.zip (t.vs.map fun x => x.plain.sort))).map (·.2)) := by
  rw [VT.plain_eq, PV.sort, PV.sortL_eq, PV.sortL_eq, List.map_map, List.map_map]
  rfl
set_option maxRecDepth 100000 in
set_option maxHeartbeats 1600000 in
theorem To_c : ∀ (m : Nat) (t : VT) (d : Nat), d + m = 33 → t.plain.ok d → ∀ w : World, t.In w (· < w.heap.size) →
    Calls Tryd.prog 25 #[.agg #[.int .i64 t.k, .string t.s, .int .i64 t.n, .bool t.b, .slice t.A t.xs.length t.c, .slice t.F t.vs.length t.d]] w (ToR m t w) := by
  intro m
  induction m with
  | zero =>
    intro t d hd h w hI
    have := (ok_parts h).1
    omega
  | succ m ih =>
    intro t d hd h w hI
    obtain ⟨h1, h2, h3, h4, h5, h6, h7, h8, h9, h10, h11⟩ := ok_parts h
    have hsz : t.s.size ≤ 140737488351232 := by cases hI with | mk _ _ _ hs _ _ _ _ _ _ _ _ => exact hs
    have hn : -9223372036854775808 ≤ t.n ∧ t.n ≤ 9223372036854775807 := by cases hI with | mk _ _ hn _ _ _ _ _ _ _ _ _ => exact hn
    rcases (by omega : t.k = 0 ∨ t.k = 1 ∨ t.k = 2 ∨ t.k = 3 ∨ t.k = 4) with hk | hk | hk | hk | hk
    · have hc : (AT.str t.s).conv = some t.plain.sort := by
        rw [sort_eq, AT.conv, hk, h4 (by omega), h5 (by omega), h6 (by omega), (h7 (by omega)).1, (h7 (by omega)).2]
        simp [sortF]
      have HC := Lib.hid hc
      rw [hk]
      clear hc ih h h1 h2 h3 h4 h5 h6 h7 h8 h9 h10 h11 hk
      go_enter Tryd.func25, Tryd.ntmps25
      go_wp2_with fail
      go_ret
      exact ⟨.str t.s, rfl, Bel.alloc _ _, .str _ hsz, trivial, HC.out⟩
    · have hc : (AT.i64 t.n).conv = some t.plain.sort := by
        rw [sort_eq, AT.conv, hk, h3 (by omega), h5 (by omega), h6 (by omega), (h7 (by omega)).1, (h7 (by omega)).2]
        simp [sortF]
      have HC := Lib.hid hc
      rw [hk]
      clear hc ih h h1 h2 h3 h4 h5 h6 h7 h8 h9 h10 h11 hk
      go_enter Tryd.func25, Tryd.ntmps25
      go_wp2_with fail
      go_ret
      exact ⟨.i64 t.n, rfl, Bel.alloc _ _, .i64 _ hn, trivial, HC.out⟩
    · have hc : (AT.bool t.b).conv = some t.plain.sort := by
        rw [sort_eq, AT.conv, hk, h3 (by omega), h4 (by omega), h6 (by omega), (h7 (by omega)).1, (h7 (by omega)).2]
        simp [sortF]
      have HC := Lib.hid hc
      rw [hk]
      clear hc ih h h1 h2 h3 h4 h5 h6 h7 h8 h9 h10 h11 hk
      go_enter Tryd.func25, Tryd.ntmps25
      go_wp2_with fail
      go_ret
      exact ⟨.bool t.b, rfl, Bel.alloc _ _, .bool _, trivial, HC.out⟩
    · have HS := Lib.hid (fun (W : World) (hb : Bel w W) => toSlice_c m t.A t.c t.xs W (by cases hI with | mk _ _ _ _ hc _ _ _ _ _ _ _ => exact hc) (by cases hI.bel hb with | mk _ _ _ _ _ _ _ hA _ _ _ _ => exact hA)
        (fun x hx W' hb' => ih x (d + 1) (by omega) (h10 x hx) W' (by cases (hI.bel hb).bel hb' with | mk _ _ _ _ _ _ _ _ _ hx' _ _ => exact hx' x hx)))
      have hc : ∀ (A : Option Addr) (c : Nat) (us : List AT), us.length = t.xs.length → (∀ (i : Nat) (a : AT), us[i]? = some a → a.conv = (t.xs[i]?).map fun t => t.plain.sort) → (AT.list A c us).conv = some t.plain.sort := fun A c us e1 e2 => by
        have e : AT.convL us = some (t.xs.map fun x => x.plain.sort) := AT.convL_some.2 ⟨by rw [List.length_map, e1], fun i x hx => by rw [List.getElem?_map]; exact e2 i x hx⟩
        rw [sort_eq, AT.conv, e, hk, h3 (by omega), h4 (by omega), h5 (by omega), (h7 (by omega)).1, (h7 (by omega)).2]
        simp [sortF]
      have HC := Lib.hid hc
      have HW0 : Hid (Bel w (w.alloc (.cells #[.int .i64 3, .string t.s, .int .i64 t.n, .bool t.b, .slice t.A t.xs.length t.c, .slice t.F t.vs.length t.d] 34))) := Lib.hid (Bel.alloc _ _)
      rw [hk]
      clear hc ih hI h h1 h2 h3 h4 h5 h6 h7 h8 h9 h10 h11 hk
      go_enter Tryd.func25, Tryd.ntmps25
      go_wp2_with (go_at_call 44; refine (HS.out _ HW0.out).mono ?_; rintro e w1 ⟨A, c, us, rfl, hb, ha, hh, hl, hcv⟩; have HB := Lib.hid (HW0.out.trans hb); have HIN := Lib.hid ha; have HH := Lib.hid hh; have HCV := Lib.hid (HC.out A c us hl hcv); clear hb ha hh hl hcv)
      go_ret
      exact ⟨.list A c us, rfl, HB.out, HIN.out.only (Only.refl [] _) (fun g hg => ⟨by simp, hg.2⟩) (fun g hg => ⟨by have := hg.1; simp at this; omega, hg.2⟩), HH.out, HCV.out⟩
    · have HS := Lib.hid (fun (W : World) (hb : Bel w W) => toMap_c m t.F t.d t.ks t.vs W (by cases hI with | mk _ _ _ _ _ hd _ _ _ _ _ _ => exact hd) h8 h9 (by cases hI with | mk _ _ _ _ _ _ _ _ _ _ _ hks => exact hks) (by cases hI.bel hb with | mk _ _ _ _ _ _ _ _ hF _ _ _ => exact hF)
        (fun x hx W' hb' => ih x (d + 1) (by omega) (h11 x hx) W' (by cases (hI.bel hb).bel hb' with | mk _ _ _ _ _ _ _ _ _ _ hv' _ => exact hv' x hx)))
      have hc : ∀ (B : Nat) (us : List AT), us.length = t.vs.length → (∀ (i : Nat) (a : AT), us[i]? = some a → a.conv = (t.vs[i]?).map fun t => t.plain.sort) → (AT.map B t.ks us).conv = some t.plain.sort := fun B us e1 e2 => by
        have e : AT.convL us = some (t.vs.map fun x => x.plain.sort) := AT.convL_some.2 ⟨by rw [List.length_map, e1], fun i x hx => by rw [List.getElem?_map]; exact e2 i x hx⟩
        rw [sort_eq, AT.conv, e, hk, h3 (by omega), h4 (by omega), h5 (by omega), h6 (by omega)]
        rfl
      have HC := Lib.hid hc
      have HW0 : Hid (Bel w (w.alloc (.cells #[.int .i64 4, .string t.s, .int .i64 t.n, .bool t.b, .slice t.A t.xs.length t.c, .slice t.F t.vs.length t.d] 34))) := Lib.hid (Bel.alloc _ _)
      rw [hk]
      clear hc ih hI h h1 h2 h3 h4 h5 h6 h7 h8 h9 h10 h11 hk
      go_enter Tryd.func25, Tryd.ntmps25
      go_wp2_with (go_at_call 45; refine (HS.out _ HW0.out).mono ?_; rintro e w1 ⟨B, us, rfl, hb, ha, hh, hl, hcv⟩; have HB := Lib.hid (HW0.out.trans hb); have HIN := Lib.hid ha; have HH := Lib.hid hh; have HCV := Lib.hid (HC.out B us hl hcv); clear hb ha hh hl hcv)
      go_ret
      exact ⟨.map B t.ks us, rfl, HB.out, HIN.out.only (Only.refl [] _) (fun g hg => ⟨by simp, hg.2⟩) (fun g hg => ⟨by have := hg.1; simp at this; omega, hg.2⟩), HH.out, HCV.out⟩
end Go.Proofs.YtmgnomahnndeaaaDoor
