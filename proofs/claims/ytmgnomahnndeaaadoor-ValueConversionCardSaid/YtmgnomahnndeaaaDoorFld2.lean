/-
  Contracts: slices.IndexFunc over Lookup's closure, the reference's Field.
-/
import Derived.Test.YtmgnomahnndeaaaDoorFld
namespace Go.Proofs.YtmgnomahnndeaaaDoor
open Go.RowKit Go.BigFrame
set_option linter.unusedVariables false
set_option linter.unusedSimpArgs false

/-- What looking for a key gives. -/
def IxPost (t : VT) (nm : ByteArray) (w : World) (e : Ending) (w' : World) : Prop :=
  Bel w w' ∧ ((t.findI nm = none ∧ e = .returned (.int .i64 (-1))) ∨ ∃ i : Nat, t.findI nm = some i ∧ i < t.vs.length ∧ e = .returned (.int .i64 i))
set_option maxHeartbeats 1000000 in
theorem indexFunc_c (t : VT) (nm : ByteArray) (w : World) (hI : t.In w (· < w.heap.size)) (b : Nat) (hb : b < w.heap.size) (hc : w.cell? ⟨b, 0, none⟩ = some (.string nm)) :
    Calls Tryd.prog 40 #[.slice t.F t.vs.length t.d, .func (.func 41) #[] #[.pointer (some ⟨b, 0, none⟩)]] w (IxPost t nm w) := by
  obtain ⟨_, _, _, _, _, hd1, hd2, hkl⟩ := hI.bounds
  have HI := Lib.hid hI
  have HC := Lib.hid hc
  have HB := Lib.hid hb
  have HKL := Lib.hid hkl
  have hn63 : t.vs.length ≤ 9223372036854775807 := by omega
  clear hI hc hb hkl
  obtain ⟨n, hn⟩ : ∃ n, n = t.vs.length := ⟨_, rfl⟩
  rw [← hn] at hd1 hn63 ⊢
  have HN := Lib.hid hn
  clear hn
  have HADR : Hid (0 < n → ∃ g o, t.F = some ⟨g, o, none⟩ ∧ g < w.heap.size ∧ ∀ i, i < n → w.cell? ⟨g, o + i * 7, none⟩ = some (.string (t.key i)) ∧ (t.value i).Cells w g (o + i * 7 + 1)) := Lib.hid (fun h => by
    obtain ⟨g, o, e, hg, hi⟩ := HI.out.fields (by rw [← HN.out]; exact h)
    exact ⟨g, o, e, hg, fun i hil => hi i (by rw [← HN.out]; exact hil)⟩)
  generalize t.F = FA at *
  go_enter Tryd.func40, Tryd.ntmps40
  go_wp2_with fail
  go_loopw [8] (fun v wr => ∃ k : Nat, k ≤ n ∧ v = .int .i64 k ∧ Hid (Bel w wr) ∧ Hid (∀ j, j < k → t.key j ≠ nm)) (fun v _ => n - (intOf v).toNat)
  case atStart => exact ⟨0, Nat.zero_le _, rfl, Lib.hid (Bel.refl _), Lib.hid (fun j hj => absurd hj (Nat.not_lt_zero _))⟩
  case round =>
    obtain ⟨k, hk, rfl, HW, HA⟩ := hrel
    by_cases hlt : k < n
    · obtain ⟨g, o, hFA, hg, hcell⟩ := HADR.out (by omega)
      subst hFA
      obtain ⟨hk0, hk1, hk2, hk3, hk4, hk5, hk6⟩ := hcell k hlt
      have c0 := (HW.out.cell (o := o + k * 7) hg).trans hk0
      have c1 := (HW.out.cell (o := o + k * 7 + 1) hg).trans hk1
      have c2 := (HW.out.cell (o := o + k * 7 + 1 + 1) hg).trans hk2
      have c3 := (HW.out.cell (o := o + k * 7 + 1 + 2) hg).trans hk3
      have c4 := (HW.out.cell (o := o + k * 7 + 1 + 3) hg).trans hk4
      have c5 := (HW.out.cell (o := o + k * 7 + 1 + 4) hg).trans hk5
      have c6 := (HW.out.cell (o := o + k * 7 + 1 + 5) hg).trans hk6
      clear hk0 hk1 hk2 hk3 hk4 hk5 hk6 hcell
      have HCC := Lib.hid ((HW.out.cell (o := 0) HB.out).trans HC.out)
      have HBB := Lib.hid (Nat.lt_of_lt_of_le HB.out HW.out.size)
      by_cases he : t.key k = nm
      · have HE := Lib.hid he
        have HF := Lib.hid (VT.findI_some (by rw [← HN.out]; exact hlt) he HA.out)
        clear he
        go_wp2_with (go_at_call 41; refine (keyIs_c _ _ nm _ _ _ _ _ _ b HBB.out HCC.out).mono ?_; rintro e w1 ⟨rfl, hb1⟩; rw [decide_eq_true HE.out]; have HB1 := Lib.hid hb1; clear hb1)
        go_ret
        exact ⟨HW.out.trans HB1.out, .inr ⟨k, HF.out, by rw [← HN.out]; exact hlt, rfl⟩⟩
      · have HE := Lib.hid he
        have HA2 : Hid (∀ j, j < k + 1 → t.key j ≠ nm) := Lib.hid fun j hj => by
          by_cases e : j = k
          · subst e; exact HE.out
          · exact HA.out j (by omega)
        clear he
        go_wp2_with (go_at_call 41; refine (keyIs_c _ _ nm _ _ _ _ _ _ b HBB.out HCC.out).mono ?_; rintro e w1 ⟨rfl, hb1⟩; rw [decide_eq_false HE.out]; have HB1 := Lib.hid hb1; clear hb1)
        go_roundw
        case rel => exact ⟨k + 1, by omega, by go_num, Lib.hid (HW.out.trans HB1.out), HA2⟩
        case measure => simp [intOf]; omega
    · obtain rfl : n = k := by omega
      have HF := Lib.hid (VT.findI_none (t := t) (nm := nm) (by rw [← HN.out]; exact HA.out))
      go_wp2_with fail
      go_ret
      exact ⟨HW.out, .inl ⟨HF.out, rfl⟩⟩
end Go.Proofs.YtmgnomahnndeaaaDoor
