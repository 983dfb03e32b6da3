/-
  Contracts: names (the program's and the reference's).
-/
import Derived.Test.YtpcapmdfjmpdiaaGreatDoorZRegion2
import Derived.Test.YtpcapmdfjmpdiaaGreatDoorProg
namespace Go.Proofs.YtpcapmdfjmpdiaaGreatDoor
open Go.RowKit Go.BigFrame
set_option linter.unusedVariables false
set_option linter.unusedSimpArgs false

theorem ret_bool {a b : Bool} (h : a = b) : Ending.returned (.bool a) = .returned (.bool b) := by rw [h]
theorem isLetter_c (c : UInt8) (w : World) :
    Calls Tryz.prog 96 #[.int .u8 c.toNat] w fun e w' => e = .returned (.bool (letterB c)) ∧ w = w' := by
  have hlt := c.toNat_lt
  go_enter Tryz.func96, Tryz.ntmps96
  go_wp2_with fail
  all_goals (go_ret; refine ⟨ret_bool ?_, rfl⟩; rw [Bool.eq_iff_iff]; simp [letterB]; try omega)
theorem isDigit_c (c : UInt8) (w : World) :
    Calls Tryz.prog 97 #[.int .u8 c.toNat] w fun e w' => e = .returned (.bool (digitB c)) ∧ w = w' := by
  have hlt := c.toNat_lt
  go_enter Tryz.func97, Tryz.ntmps97
  go_wp2_with fail
  all_goals (go_ret; refine ⟨ret_bool ?_, rfl⟩; rw [Bool.eq_iff_iff]; simp [digitB]; try omega)
theorem letter_c (c : UInt8) (w : World) :
    Calls Tryz.prog 98 #[.int .u8 c.toNat] w fun e w' => e = .returned (.bool (letterB c)) ∧ w = w' := by
  have hlt := c.toNat_lt
  go_enter Tryz.func98, Tryz.ntmps98
  go_wp2_with fail
  all_goals (go_ret; refine ⟨ret_bool ?_, rfl⟩; rw [Bool.eq_iff_iff]; simp [letterB]; try omega)
theorem getElem_toList {s : ByteArray} {k : Nat} (h : k < s.size) : s.data.toList[k]? = some s[k] := by
  have h' : k < s.data.toList.length := by simpa using h
  rw [List.getElem?_eq_getElem h']
  rfl
theorem name_bad {s : ByteArray} {k : Nat} (h : k < s.size) (hw : wordB s[k] = false) : nameB s = false := by
  unfold nameB
  have h1 := getElem_toList h
  cases hl : s.data.toList with
  | nil => rfl
  | cons c l =>
    rw [nameL_cons, ← hl, not_all_of h1 hw]
    simp
theorem name_first {s : ByteArray} (h : 0 < s.size) (hw : letterB s[0] = false) : nameB s = false := by
  unfold nameB
  have h1 := getElem_toList h
  cases hl : s.data.toList with
  | nil => rfl
  | cons c l =>
    rw [hl] at h1
    have : c = s[0] := by simpa using h1
    rw [nameL_cons, this, hw]
    simp
theorem name_long {s : ByteArray} (h : 32 < s.size) : nameB s = false := by
  unfold nameB
  have h1 : s.data.toList.length = s.size := rfl
  cases hl : s.data.toList with
  | nil => rfl
  | cons c l =>
    rw [nameL_cons, ← hl, h1]
    have : decide (s.size ≤ 32) = false := by simp; omega
    rw [this]
    rfl
theorem name_short {s : ByteArray} (h : s.size = 0) : nameB s = false := by
  unfold nameB
  have h1 : s.data.toList.length = s.size := rfl
  rw [h] at h1
  rw [List.length_eq_zero_iff.1 h1]
  rfl
theorem name_good {s : ByteArray} (h0 : 0 < s.size) (h1 : s.size ≤ 32) (hl : letterB s[0] = true) (ha : (s.data.toList.take s.size).all wordB = true) : nameB s = true := by
  unfold nameB
  have h2 : s.data.toList.length = s.size := rfl
  have h3 := getElem_toList h0
  rw [← h2, List.take_length] at ha
  cases hl' : s.data.toList with
  | nil => rw [hl'] at h2; simp at h2; omega
  | cons c l =>
    rw [hl'] at h3
    have hc : c = s[0] := by simpa using h3
    rw [nameL_cons, ← hl', h2, hc, hl, ha]
    simp [h1]
theorem empty_of {t : ByteArray} (h : t.size = 0) : t.toList.isEmpty = true := by
  rw [ByteArray.toList_eq]
  have h1 : t.data.toList.length = t.size := rfl
  rw [h] at h1
  rw [List.length_eq_zero_iff.1 h1]
  rfl
theorem empty_not {t : ByteArray} (h : t.size ≠ 0) : t.toList.isEmpty = false := by
  rw [ByteArray.toList_eq]
  have h1 : t.data.toList.length = t.size := rfl
  cases hl : t.data.toList with
  | nil => rw [hl] at h1; exact absurd h1.symm h
  | cons c l => rfl
set_option maxHeartbeats 1000000 in
theorem isName_c (s : ByteArray) (hs : s.size ≤ maxLen) (w : World) :
    Calls Tryz.prog 73 #[.string s] w fun e w' => e = .returned (.bool (nameB s)) ∧ w = w' := by
  unfold maxLen at hs
  by_cases h0 : s.size = 0
  · have HN := Lib.hid (name_short h0)
    have hz := empty_of h0
    go_enter Tryz.func73, Tryz.ntmps73
    go_wp2_with fail
    go_ret
    exact ⟨ret_bool HN.out.symm, rfl⟩
  have hz := empty_not h0
  have hpos : 0 < s.size := by omega
  clear h0
  by_cases h1 : 32 < s.size
  · have HN := Lib.hid (name_long h1)
    go_enter Tryz.func73, Tryz.ntmps73
    go_wp2_with fail
    go_ret
    exact ⟨ret_bool HN.out.symm, rfl⟩
  cases hL : letterB s[0] with
  | false =>
    have HN := Lib.hid (name_first hpos hL)
    have HL := Lib.hid hL
    clear hL
    go_enter Tryz.func73, Tryz.ntmps73
    go_wp2_with (go_at_call 96; refine (isLetter_c _ _).mono ?_; rintro e w' ⟨rfl, rfl⟩; rw [HL.out])
    go_ret
    exact ⟨ret_bool HN.out.symm, rfl⟩
  | true =>
    have HL := Lib.hid hL
    clear hL
    go_enter Tryz.func73, Tryz.ntmps73
    go_wp2_with (go_at_call 96; refine (isLetter_c _ _).mono ?_; rintro e w' ⟨rfl, rfl⟩; rw [HL.out])
    go_loop [19] (fun i => ∃ k : Nat, k ≤ s.size ∧ i = .int .i64 k ∧ Hid ((s.data.toList.take k).all wordB = true)) (fun i => s.size - (intOf i).toNat)
    case atStart => exact ⟨0, Nat.zero_le _, rfl, Lib.hid (by simp)⟩
    case round =>
      obtain ⟨k, hk, rfl, HA⟩ := hrel
      by_cases hlt : k < s.size
      · have hgk := getElem_toList hlt
        have hclt := s[k].toNat_lt
        cases hl : letterB s[k] with
        | true =>
          have HLk := Lib.hid hl
          have HS := Lib.hid (all_take_succ HA.out hgk (by unfold wordB; rw [hl]; rfl))
          have HDk := Lib.hid hl
          clear hl hgk
          go_wp2_with (first | (go_at_call 96; refine (isLetter_c _ _).mono ?_; rintro e w' ⟨rfl, rfl⟩; rw [HLk.out]) | (go_at_call 97; refine (isDigit_c _ _).mono ?_; rintro e w' ⟨rfl, rfl⟩; rw [HDk.out]))
          go_round
          case rel => exact ⟨k + 1, by omega, by go_num, HS⟩
          case measure => simp [intOf]; omega
        | false =>
          have HLk := Lib.hid hl
          cases hd : digitB s[k] with
          | true =>
            have HDk := Lib.hid hd
            have HS := Lib.hid (all_take_succ HA.out hgk (by unfold wordB; rw [hl, hd]; rfl))
            clear hl hgk hd
            go_wp2_with (first | (go_at_call 96; refine (isLetter_c _ _).mono ?_; rintro e w' ⟨rfl, rfl⟩; rw [HLk.out]) | (go_at_call 97; refine (isDigit_c _ _).mono ?_; rintro e w' ⟨rfl, rfl⟩; rw [HDk.out]))
            go_round
            case rel => exact ⟨k + 1, by omega, by go_num, HS⟩
            case measure => simp [intOf]; omega
          | false =>
            have HDk := Lib.hid hd
            by_cases hu : s[k].toNat = 95
            · have HS := Lib.hid (all_take_succ HA.out hgk (by unfold wordB; rw [hl, hd, hu]; rfl))
              have hu1 : ((s[k].toNat : Int) == 95) = true := by rw [hu]; rfl
              have hu2 : ((s[k].toNat : Int) != 95) = false := by rw [hu]; rfl
              clear hl hgk hd hu
              go_wp2_with (first | (go_at_call 96; refine (isLetter_c _ _).mono ?_; rintro e w' ⟨rfl, rfl⟩; rw [HLk.out]) | (go_at_call 97; refine (isDigit_c _ _).mono ?_; rintro e w' ⟨rfl, rfl⟩; rw [HDk.out]))
              go_round
              case rel => exact ⟨k + 1, by omega, by go_num, HS⟩
              case measure => simp [intOf]; omega
            · have HN := Lib.hid (name_bad hlt (by unfold wordB; rw [hl, hd]; simpa using hu))
              have hu1 : ((s[k].toNat : Int) == 95) = false := by simp; omega
              have hu2 : ((s[k].toNat : Int) != 95) = true := by simp; omega
              clear hl hgk hd hu
              go_wp2_with (first | (go_at_call 96; refine (isLetter_c _ _).mono ?_; rintro e w' ⟨rfl, rfl⟩; rw [HLk.out]) | (go_at_call 97; refine (isDigit_c _ _).mono ?_; rintro e w' ⟨rfl, rfl⟩; rw [HDk.out]))
              go_ret
              exact ⟨ret_bool HN.out.symm, rfl⟩
      · obtain rfl : s.size = k := by omega
        have HN := Lib.hid (name_good hpos (by omega) HL.out HA.out)
        go_wp2_with fail
        go_ret
        exact ⟨ret_bool HN.out.symm, rfl⟩
set_option maxHeartbeats 1000000 in
theorem refName_c (s : ByteArray) (hs : s.size ≤ maxLen) (w : World) :
    Calls Tryz.prog 74 #[.string s] w fun e w' => e = .returned (.bool (nameB s)) ∧ w = w' := by
  unfold maxLen at hs
  by_cases h0 : s.size = 0
  · have HN := Lib.hid (name_short h0)
    have hz := empty_of h0
    go_enter Tryz.func74, Tryz.ntmps74
    go_wp2_with fail
    go_ret
    exact ⟨ret_bool HN.out.symm, rfl⟩
  have hz := empty_not h0
  have hpos : 0 < s.size := by omega
  clear h0
  by_cases h1 : 32 < s.size
  · have HN := Lib.hid (name_long h1)
    go_enter Tryz.func74, Tryz.ntmps74
    go_wp2_with fail
    go_ret
    exact ⟨ret_bool HN.out.symm, rfl⟩
  cases hL : letterB s[0] with
  | false =>
    have HN := Lib.hid (name_first hpos hL)
    have HL := Lib.hid hL
    clear hL
    go_enter Tryz.func74, Tryz.ntmps74
    go_wp2_with (go_at_call 98; refine (letter_c _ _).mono ?_; rintro e w' ⟨rfl, rfl⟩; rw [HL.out])
    go_ret
    exact ⟨ret_bool HN.out.symm, rfl⟩
  | true =>
    have HL := Lib.hid hL
    clear hL
    go_enter Tryz.func74, Tryz.ntmps74
    go_wp2_with (go_at_call 98; refine (letter_c _ _).mono ?_; rintro e w' ⟨rfl, rfl⟩; rw [HL.out])
    go_loop [3] (fun i => ∃ k : Nat, k ≤ s.size ∧ i = .int .i64 k ∧ Hid ((s.data.toList.take k).all wordB = true)) (fun i => s.size - (intOf i).toNat)
    case atStart => exact ⟨0, Nat.zero_le _, rfl, Lib.hid (by simp)⟩
    case round =>
      obtain ⟨k, hk, rfl, HA⟩ := hrel
      by_cases hlt : k < s.size
      · have hgk := getElem_toList hlt
        have hclt := s[k].toNat_lt
        cases hl : letterB s[k] with
        | true =>
          have HLk := Lib.hid hl
          have HS := Lib.hid (all_take_succ HA.out hgk (by unfold wordB; rw [hl]; rfl))
          have HDk := Lib.hid hl
          clear hl hgk
          go_wp2_with (first | (go_at_call 98; refine (letter_c _ _).mono ?_; rintro e w' ⟨rfl, rfl⟩; rw [HLk.out]))
          go_round
          case rel => exact ⟨k + 1, by omega, by go_num, HS⟩
          case measure => simp [intOf]; omega
        | false =>
          have HLk := Lib.hid hl
          cases hd : digitB s[k] with
          | true =>
            have hdd : 48 ≤ (s[k].toNat : Int) ∧ (s[k].toNat : Int) ≤ 57 := by unfold digitB at hd; simp at hd; omega
            obtain ⟨hd1, hd2⟩ := hdd
            have HS := Lib.hid (all_take_succ HA.out hgk (by unfold wordB; rw [hl, hd]; rfl))
            clear hl hgk hd
            go_wp2_with (first | (go_at_call 98; refine (letter_c _ _).mono ?_; rintro e w' ⟨rfl, rfl⟩; rw [HLk.out]))
            go_round
            case rel => exact ⟨k + 1, by omega, by go_num, HS⟩
            case measure => simp [intOf]; omega
          | false =>
            have hdd : (s[k].toNat : Int) < 48 ∨ 57 < (s[k].toNat : Int) := by unfold digitB at hd; simp at hd; omega
            by_cases hu : s[k].toNat = 95
            · have HS := Lib.hid (all_take_succ HA.out hgk (by unfold wordB; rw [hl, hd, hu]; rfl))
              have hu1 : ((s[k].toNat : Int) == 95) = true := by rw [hu]; rfl
              have hu2 : ((s[k].toNat : Int) != 95) = false := by rw [hu]; rfl
              have hu3 : 57 < (s[k].toNat : Int) := by omega
              have hu4 : ¬ (s[k].toNat : Int) < 48 := by omega
              clear hl hgk hd hu hdd
              go_wp2_with (first | (go_at_call 98; refine (letter_c _ _).mono ?_; rintro e w' ⟨rfl, rfl⟩; rw [HLk.out]))
              go_round
              case rel => exact ⟨k + 1, by omega, by go_num, HS⟩
              case measure => simp [intOf]; omega
            · have HN := Lib.hid (name_bad hlt (by unfold wordB; rw [hl, hd]; simpa using hu))
              have hu1 : ((s[k].toNat : Int) == 95) = false := by simp; omega
              have hu2 : ((s[k].toNat : Int) != 95) = true := by simp; omega
              clear hl hgk hd hu
              rcases hdd with hd1 | hd1
              · go_wp2_with (first | (go_at_call 98; refine (letter_c _ _).mono ?_; rintro e w' ⟨rfl, rfl⟩; rw [HLk.out]))
                go_ret
                exact ⟨ret_bool HN.out.symm, rfl⟩
              · have hd2 : ¬ (s[k].toNat : Int) < 48 := by omega
                go_wp2_with (first | (go_at_call 98; refine (letter_c _ _).mono ?_; rintro e w' ⟨rfl, rfl⟩; rw [HLk.out]))
                go_ret
                exact ⟨ret_bool HN.out.symm, rfl⟩
      · obtain rfl : s.size = k := by omega
        have HN := Lib.hid (name_good hpos (by omega) HL.out HA.out)
        go_wp2_with fail
        go_ret
        exact ⟨ret_bool HN.out.symm, rfl⟩
end Go.Proofs.YtpcapmdfjmpdiaaGreatDoor
