/-
  The law ValueNamesMatchReference, walked.
-/
import Derived.Test.YtmgnomahnndeaaaDoorAlive9B
namespace Go.Proofs.YtmgnomahnndeaaaDoor
open Go.RowKit Go.BigFrame
set_option linter.unusedVariables false
set_option linter.unusedSimpArgs false

theorem equalSame_c {w : World} {A B : Option Addr} {l : List ByteArray} (hl : Strs w A l) (hm : Strs w B l) (c d : Nat) (h1 : l.length ≤ 4611686018427387904) :
    Calls Tryd.prog 14 #[.slice A l.length c, .slice B l.length d] w fun e w' => e = .returned (.bool true) ∧ Bel w w' := by
  have := equalS_c hl hm c d h1 h1
  rw [decide_eq_true rfl] at this
  exact this
theorem equalNil_c (w : World) : Calls Tryd.prog 14 #[.slice none 0 0, .slice none 0 0] w fun e w' => e = .returned (.bool true) ∧ Bel w w' :=
  equalSame_c (l := []) (.inl rfl) (.inl rfl) 0 0 (by simp)
set_option maxRecDepth 100000 in
set_option maxHeartbeats 1600000 in
theorem namesLaw (s : ByteArray) (w : World) (hT : MX w) (hs : s.size ≤ maxLen) :
    Calls Tryd.prog 3 #[.string s] w fun e w' => e = .returned (.bool true) ∧ Below w.heap.size w w' := by
  have HT := Lib.hid hT
  have HA := Lib.hid (fun (W : World) (h : MX W) => alive_c W h)
  by_cases hbig : 2000 < s.size
  · have hi : (2000 : Int) < (s.size : Int) := by omega
    clear hT hs
    go_enter Tryd.func3, Tryd.ntmps3
    go_wp2_with (go_at_call 9; refine (HA.out _ HT.out).mono ?_; rintro e w1 ⟨rfl, hb⟩)
    go_ret
    exact ⟨rfl, hb⟩
  have hi : ¬ (2000 : Int) < (s.size : Int) := by omega
  have HS := Lib.hid (fun (W : World) (h : MX W) => split_c s W h (by omega))
  have HR := Lib.hid (fun (W : World) => refSplit_c s W (by omega))
  have HN := Lib.hid (isName_c s hs)
  have HM := Lib.hid (refName_c s hs)
  clear hT hs hbig
  generalize nameB s = nb at HN HM
  cases hp : pathOf s with
  | none =>
    have HP := Lib.hid hp
    clear hp
    go_enter Tryd.func3, Tryd.ntmps3
    go_wp2_with (first | (go_at_call 10; refine (HS.out _ HT.out).mono ?_; rintro e w1 hS; obtain ⟨rfl, hb⟩ := split_none HP.out hS; have HB1 := Lib.hid hb; clear hb hS) | (go_at_call 11; refine (HR.out _).mono ?_; rintro e w2 hS; obtain ⟨rfl, hb⟩ := split_none HP.out hS; have HB2 := Lib.hid (HB1.out.trans hb); clear hb hS) | (go_at_call 9; refine (HA.out _ (HT.out.bel HB2.out)).mono ?_; rintro e w3 ⟨rfl, hb⟩; have HB3 := Lib.hid (HB2.out.trans hb); clear hb) | (go_at_call 12; refine (HN.out _).mono ?_; rintro e w4 ⟨rfl, rfl⟩) | (go_at_call 13; refine (HM.out _).mono ?_; rintro e w5 ⟨rfl, rfl⟩) | (go_at_call 14; refine (equalNil_c _).mono ?_; rintro e w6 ⟨rfl, hb⟩; have HB6 := Lib.hid (HB3.out.trans hb); clear hb))
    go_ret
    exact ⟨rfl, HB6.out⟩
  | some l =>
    have HP := Lib.hid hp
    clear hp
    go_enter Tryd.func3, Tryd.ntmps3
    go_wp2_with (first | (go_at_call 10; refine (HS.out _ HT.out).mono ?_; rintro e w1 hS; obtain ⟨A1, c1, rfl, hs1, _, hl8, _, hb⟩ := split_some HP.out hS; have HB1 := Lib.hid hb; have HS1 := Lib.hid hs1; clear hb hS hs1) | (go_at_call 11; refine (HR.out _).mono ?_; rintro e w2 hS; obtain ⟨A2, c2, rfl, hs2, _, _, _, hb⟩ := split_some HP.out hS; have HB2 := Lib.hid (HB1.out.trans hb); have HS2 := Lib.hid hs2; have HS12 := Lib.hid (HS1.out.bel hb); clear hb hS hs2) | (go_at_call 9; refine (HA.out _ (HT.out.bel HB2.out)).mono ?_; rintro e w3 ⟨rfl, hb⟩; have HB3 := Lib.hid (HB2.out.trans hb); have HEQ := Lib.hid (equalSame_c (HS12.out.bel hb) (HS2.out.bel hb) c1 c2 (by omega)); clear hb) | (go_at_call 12; refine (HN.out _).mono ?_; rintro e w4 ⟨rfl, rfl⟩) | (go_at_call 13; refine (HM.out _).mono ?_; rintro e w5 ⟨rfl, rfl⟩) | (go_at_call 14; refine HEQ.out.mono ?_; rintro e w6 ⟨rfl, hb⟩; have HB6 := Lib.hid (HB3.out.trans hb); clear hb))
    go_ret
    exact ⟨rfl, HB6.out⟩
end Go.Proofs.YtmgnomahnndeaaaDoor
