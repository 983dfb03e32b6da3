/-
  Contract: the reference's Field.
-/
import Derived.Test.YtmgnomahnndeaaaDoorFld2
namespace Go.Proofs.YtmgnomahnndeaaaDoor
open Go.RowKit Go.BigFrame
set_option linter.unusedVariables false
set_option linter.unusedSimpArgs false

theorem VT.val_eq (t : VT) : t.val = .agg #[.int .i64 t.k, .string t.s, .int .i64 t.n, .bool t.b, .slice t.A t.xs.length t.c, .slice t.F t.vs.length t.d] := rfl
theorem VT.zero_val : VT.zero.val = .agg #[.int .i64 0, .string ByteArray.empty, .int .i64 0, .bool false, .slice none 0 0, .slice none 0 0] := rfl
/-- What Field gives. -/
def FldPost (t : VT) (nm : ByteArray) (w : World) (e : Ending) (w' : World) : Prop :=
  Bel w w' ∧ match t.fld nm with
    | .ok u => e = .returned (.tuple #[u.val, .int .i64 0])
    | .error c => e = .returned (.tuple #[VT.zero.val, .int .i64 c])
theorem fld_kind {t : VT} {nm : ByteArray} (h : t.k ≠ 4) : t.fld nm = .error 18 := by unfold VT.fld; rw [if_pos h]
theorem fld_miss {t : VT} {nm : ByteArray} (h : t.k = 4) (hf : t.findI nm = none) : t.fld nm = .error 17 := by unfold VT.fld; rw [if_neg (by simpa using h), hf]
theorem fld_hit {t : VT} {nm : ByteArray} (h : t.k = 4) {i : Nat} (hf : t.findI nm = some i) : t.fld nm = .ok (t.value i) := by unfold VT.fld; rw [if_neg (by simpa using h), hf]
theorem fldPost_err {t : VT} {nm : ByteArray} {w w' : World} {e : Ending} {c : Int} (hb : Bel w w') (h : t.fld nm = .error c) (he : e = .returned (.tuple #[VT.zero.val, .int .i64 c])) : FldPost t nm w e w' := by
  unfold FldPost; rw [h]; exact ⟨hb, he⟩
theorem fldPost_ok {t u : VT} {nm : ByteArray} {w w' : World} {e : Ending} (hb : Bel w w') (h : t.fld nm = .ok u) (he : e = .returned (.tuple #[u.val, .int .i64 0])) : FldPost t nm w e w' := by
  unfold FldPost; rw [h]; exact ⟨hb, he⟩
theorem bel_trans_of {w w1 : World} (h : Below w.heap.size w w1) : Bel w w1 := h

set_option maxHeartbeats 1000000 in
theorem field_c (t : VT) (nm : ByteArray) (w : World) (hI : t.In w (· < w.heap.size)) :
    Calls Tryd.prog 42 #[t.val, .string nm] w (FldPost t nm w) := by
  rw [VT.val_eq]
  obtain ⟨⟨hk1, hk2⟩, _, _, _, _, hd1, hd2, hkl⟩ := hI.bounds
  by_cases h4 : t.k = 4
  · have hK := Lib.hid h4
    have hk4 : (t.k == 4) = true := by rw [h4]; rfl
    have hk4' : (t.k != 4) = false := by rw [h4]; rfl
    clear h4
    have HI := Lib.hid hI
    have HKL := Lib.hid hkl
    clear hI hkl
    obtain ⟨n, hn⟩ : ∃ n, n = t.vs.length := ⟨_, rfl⟩
    rw [← hn] at hd1 ⊢
    have hn63 : n ≤ 9223372036854775807 := by omega
    have HN := Lib.hid hn
    clear hn
    have HADR : Hid (0 < n → ∃ g o, t.F = some ⟨g, o, none⟩ ∧ g < w.heap.size ∧ ∀ i, i < n → w.cell? ⟨g, o + i * 7, none⟩ = some (.string (t.key i)) ∧ (t.value i).Cells w g (o + i * 7 + 1)) := Lib.hid (fun h => by
      obtain ⟨g, o, e, hg, hi⟩ := HI.out.fields (by rw [← HN.out]; exact h)
      exact ⟨g, o, e, hg, fun i hil => hi i (by rw [← HN.out]; exact hil)⟩)
    generalize t.F = FA at *
    go_enter Tryd.func42, Tryd.ntmps42
    go_wp2_with fail
    go_loop [6] (fun v => ∃ k : Nat, k ≤ n ∧ v = .int .i64 k ∧ Hid (∀ j, j < k → t.key j ≠ nm)) (fun v => n - (intOf v).toNat)
    case atStart => exact ⟨0, Nat.zero_le _, rfl, Lib.hid (fun j hj => absurd hj (Nat.not_lt_zero _))⟩
    case round =>
      obtain ⟨k, hk, rfl, HA⟩ := hrel
      by_cases hlt : k < n
      · obtain ⟨g, o, hFA, hg, hcell⟩ := HADR.out (by omega)
        subst hFA
        obtain ⟨c0, c1, c2, c3, c4, c5, c6⟩ := hcell k hlt
        clear hcell
        by_cases he : t.key k = nm
        · have HE := Lib.hid he
          have HF := Lib.hid (fld_hit hK.out (VT.findI_some (by rw [← HN.out]; exact hlt) he HA.out))
          have he2 : ((t.key k).toList == nm.toList) = true := by rw [toList_beq]; simpa using he
          clear he
          go_wp2_with fail
          refine bodyPost_ret (v := .tuple #[(t.value k).val, .int .i64 0]) (by simp [results, Tryd.results42, go_sem, VT.val_eq]) rfl ?_
          exact fldPost_ok (((Below.refl _ _).alloc (Nat.le_refl _) _).alloc (by simp) _) HF.out rfl
        · have HE := Lib.hid he
          have HA2 : Hid (∀ j, j < k + 1 → t.key j ≠ nm) := Lib.hid fun j hj => by
            by_cases e : j = k
            · subst e; exact HE.out
            · exact HA.out j (by omega)
          have he2 : ((t.key k).toList == nm.toList) = false := by rw [toList_beq]; simpa using he
          clear he
          go_wp2_with fail
          go_round
          case rel => exact ⟨k + 1, by omega, by go_num, HA2⟩
          case measure => simp [intOf]; omega
      · obtain rfl : n = k := by omega
        have HF := Lib.hid (fld_miss hK.out (VT.findI_none (t := t) (nm := nm) (by rw [← HN.out]; exact HA.out)))
        go_wp2_with fail
        refine bodyPost_ret (v := .tuple #[VT.zero.val, .int .i64 17]) (by simp [results, Tryd.results42, go_sem, VT.zero_val]; rfl) rfl ?_
        exact fldPost_err (((Below.refl _ _).alloc (Nat.le_refl _) _).alloc (by simp) _) HF.out rfl
  · have HF := Lib.hid (fld_kind (nm := nm) h4)
    have hk4 : (t.k == 4) = false := by simpa using h4
    have hk4' : (t.k != 4) = true := by simpa using h4
    clear h4
    go_enter Tryd.func42, Tryd.ntmps42
    go_wp2_with fail
    refine bodyPost_ret (v := .tuple #[VT.zero.val, .int .i64 18]) (by simp [results, Tryd.results42, go_sem, VT.zero_val]; rfl) rfl ?_
    exact fldPost_err (((Below.refl _ _).alloc (Nat.le_refl _) _).alloc (by simp) _) HF.out rfl
end Go.Proofs.YtmgnomahnndeaaaDoor
