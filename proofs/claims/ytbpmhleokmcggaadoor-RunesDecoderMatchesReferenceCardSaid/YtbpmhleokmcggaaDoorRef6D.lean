/-
  Contracts of the reference's decoder of layer 6.
-/
import Derived.Test.YtbpmhleokmcggaaDoorRef6
namespace Go.Proofs.YtbpmhleokmcggaaDoor
open Go.RowKit Go.BigFrame
set_option linter.unusedVariables false
set_option linter.unusedSimpArgs false
attribute [local go_sem ↓] sliced_cut run_min2 run_max2
attribute [local go_sem] cutA_zero

/-- The reference's decoder at block r. -/
def Ho (r : Nat) (l : List UInt8) (w : World) : Prop := Blk w r 40 [.string (str l)]
set_option maxRecDepth 100000 in
set_option maxHeartbeats 1600000 in
theorem refClose_c {w : World} {r : Nat} {l : List UInt8} (h : Ho r l w) (hl : l.length ≤ 1000000) :
    Calls Tryd.prog 22 #[.pointer (some ⟨r, 0, none⟩)] w fun e w' => Out w w' e (decL l) ∧ Ho r [] w' ∧ Only [r] w w' := by
  have hc : w.cell? ⟨r, 0, none⟩ = some (.string (str l)) := h.cell 0
  have HD := Lib.hid (refDecode_c (w := w) (str l) (by rw [str_size]; exact hl))
  rw [str_list] at HD
  have H := Lib.hid (show Blk w r 40 [.string (str l)] from h)
  generalize str l = s at *
  clear h hl
  go_enter Tryd.func22, Tryd.ntmps22
  go_wp2_with (go_at_call 12; refine (HD.out).mono ?_; rintro e w5 ⟨⟨A, c, rfl, hrow, hk⟩, hO⟩; have HROW := Lib.hid hrow; have HK := Lib.hid hk; have HO := Lib.hid hO; have hc5 := (H.out.only hO (by simp)).cell 0; have hf5 := (H.out.only hO (by simp)).free 0; simp only [List.getElem?_cons_zero] at hc5; clear hrow hk hO)
  go_ret
  have hB : Blk w5 r 40 [.string s] := H.out.only HO.out (by simp)
  refine ⟨⟨A, c, rfl, HROW.out.far (fun hk => ?_) _, HK.out⟩, hB.set_ 0 _, ?_⟩
  · have := HK.out _ hk
    have := H.out.lt
    simp at *
    omega
  · exact (HO.out.more (by simp)).setCell (.inl (by simp)) _
set_option maxRecDepth 100000 in
set_option maxHeartbeats 3200000 in
theorem refWrite_c {w : World} {r : Nat} {l : List UInt8} (h : Ho r l w) {B n c : Nat} {A : Option Addr} {b : List UInt8} (hb : Reads w B A n (vbs b)) (hl : l.length ≤ 500000) (hn : n ≤ 500000) :
    Calls Tryd.prog 21 #[.pointer (some ⟨r, 0, none⟩), .slice A n c] w fun e w' => Out w w' e (wout (l ++ b)) ∧ Ho r (wheld (l ++ b)) w' ∧ Only [r] w w' := by
  have hbl : b.length = n := by have := hb.1; rwa [vbs_length] at this
  have hc : w.cell? ⟨r, 0, none⟩ = some (.string (str l)) := h.cell 0
  have hcv : ∀ k, (convert 34 9 (.slice A n c)).run Tryd.prog (w.drewN k) = .ok (.string (str b)) (w.drewN k) := fun k => run_string_of Tryd.underlying34 Tryd.underlying5 Tryd.underlying9 (show Reads (w.drewN k) B A n (vbs b) from hb) c
  have hadd : str l ++ str b = str (l ++ b) := str_add l b
  have hsum : ¬ ((str l).size + (str b).size > 9223372036854775807) := by rw [str_size, str_size]; omega
  have hcut := (cutL_le (l ++ b)).1
  have HLEN := Lib.hid (show (l ++ b).length ≤ 1000000 by simp; omega)
  have hto := str_to (l ++ b) (cutL (l ++ b))
  have hfr := str_from (l ++ b) (cutL (l ++ b))
  have HDC := Lib.hid (fun (w1 : World) => by have := refDecode_c (w := w1) (str ((l ++ b).take (cutL (l ++ b)))) (by rw [str_size, List.length_take]; have := HLEN.out; omega); rw [str_list] at this; exact this)
  have H := Lib.hid (show Blk w r 40 [.string (str l)] from h)
  change (str (l ++ b)).extract (cutL (l ++ b)) (str (l ++ b)).size = str (wheld (l ++ b)) at hfr
  have HF1 := Lib.hid (show decL ((l ++ b).take (cutL (l ++ b))) = wout (l ++ b) from rfl)
  rw [HF1.out] at HDC
  have hq : (cutL (l ++ b) : Int) ≤ ((str (l ++ b)).size : Int) := by rw [str_size]; omega
  have HQ := Lib.hid (show cutL (l ++ b) = cutL (str (l ++ b)).data.toList from rfl)
  have hSb : (str (l ++ b)).size ≤ 1000000 := by rw [str_size]; exact HLEN.out
  have HQZ := Lib.hid hcut
  rw [← str_size] at HQZ
  clear hb hcut HLEN HF1 hbl hl hn h
  unfold Ho
  generalize str (wheld (l ++ b)) = SH at *
  generalize wout (l ++ b) = WO at *
  generalize str ((l ++ b).take (cutL (l ++ b))) = SF at *
  generalize cutL (l ++ b) = q at *
  generalize str (l ++ b) = S at *
  generalize str l = s at *
  generalize str b = t at *
  go_enter Tryd.func21, Tryd.ntmps21
  go_wp2_with fail
  go_quiet (fail)
  go_wp2_with fail
  have HOW := Lib.hid ((Only.refl [] w).drewN nq)
  clear hcv hsum hadd
  generalize w.drewN nq = W0 at *
  go_loopw [6] (fun v6 w' => ∃ i : Nat, i ≤ S.size ∧ v6 = .int .i64 i ∧ Hid (q = i + cutL (S.data.toList.drop i)) ∧ w' = W0) (fun v6 _ => S.size - (intOf v6).toNat)
  case atStart => exact ⟨0, by omega, rfl, Lib.hid (by rw [HQ.out]; simp), rfl⟩
  case round =>
    obtain ⟨i, hi, rfl, hqi, rfl⟩ := hrel
    have hc0 := (H.out.only HOW.out (by simp)).cell 0
    have hf0 := (H.out.only HOW.out (by simp)).free 0
    simp only [List.getElem?_cons_zero] at hc0
    by_cases hlt : i < S.size
    · have hli : (i : Int) < (S.size : Int) := by omega
      have hle : (i : Int) ≤ (S.size : Int) := by omega
      obtain ⟨u, hu⟩ : ∃ u, S.extract i S.size = u := ⟨_, rfl⟩
      have hus : u.size = S.size - i := by rw [← hu, from_size]
      have hdr : S.data.toList.drop i = u.data.toList := by rw [← hu, sl_from]
      have hne : u.data.toList ≠ [] := sl_ne (by omega)
      have HF := Lib.hid (fun w1 : World => first_c (w := w1) u)
      have hdk := dk_fst hne
      have hwd := dk_wid hne
      rw [sl_size, hus] at hwd
      have hst := @cutL_step u.data.toList hne
      have hmo := @cutL_more u.data.toList
      rw [hdr] at hqi
      generalize fst u.data.toList = F at *
      obtain ⟨F1, F2⟩ := F
      simp only at hdk hst hmo
      cases hF2 : F2 with
      | true =>
        subst hF2
        have hq1 : i = q := by rw [hqi.out, hmo rfl]; rfl
        clear hqi hdk hwd hst hmo hdr hus hne HQ HQZ
        subst hq1
        have huS : u = SH := hu.symm.trans hfr
        subst huS
        clear hu
        go_wp2_with (first | (go_at_call 23; refine (HF.out _).mono ?_; rintro e w5 ⟨rfl, hw5⟩; rw [hw5]; clear hw5) | (go_at_call 12; refine (HDC.out _).mono ?_; rintro e w7 ⟨⟨A7, c7, rfl, hrow, hk⟩, hO⟩; have HROW := Lib.hid hrow; have HK := Lib.hid hk; have HO7 := Lib.hid hO; clear hrow hk hO))
        go_ret
        have hB : Blk wr r 40 [.string s] := H.out.only HOW.out (by simp)
        have hB2 : Blk (wr.setCell ⟨r, 0, none⟩ (.string u)) r 40 [.string u] := hB.set_ 0 _
        have hz := HOW.out.size
        have hO6 : Only [r] w (wr.setCell ⟨r, 0, none⟩ (.string u)) := (HOW.out.more (by simp)).setCell (.inl (by simp)) _
        have hz2 := hO6.size
        exact ⟨⟨A7, c7, rfl, HROW.out, fun k hk => by have := HK.out k hk; omega⟩, hB2.only HO7.out (by simp), hO6.trans (HO7.out.more (by simp))⟩
      | false =>
        subst hF2
        have hq1 := hst rfl
        by_cases hF : F1 = 0
        · subst hF
          have hd2 : (dk u.data.toList).2 = 1 := by rw [hdk]; rfl
          rw [hd2] at hq1 hwd
          have HQ1 := Lib.hid (show q = i + 1 + cutL (S.data.toList.drop (i + 1)) by rw [hqi.out, hq1, ← hdr, List.drop_drop, Nat.add_assoc])
          have hb := hwd.2
          clear hqi hdk hwd hst hmo hdr hus hne hq1 hd2
          go_wp2_with (go_at_call 23; refine (HF.out _).mono ?_; rintro e w5 ⟨rfl, hw5⟩; rw [hw5]; clear hw5)
          go_roundw
          case rel => exact ⟨i + 1, by omega, by go_num, HQ1, trivial⟩
          case measure => simp [intOf]; omega
        · have hF3 : ¬ ((F1 : Int) = 0) := by omega
          have hd2 : (dk u.data.toList).2 = F1 := by rw [hdk]; unfold res; rw [if_neg hF]
          rw [hd2] at hq1 hwd
          have HQ1 := Lib.hid (show q = i + F1 + cutL (S.data.toList.drop (i + F1)) by rw [hqi.out, hq1, ← hdr, List.drop_drop, Nat.add_assoc])
          have hb := hwd.2
          have hb1 := hwd.1
          have HSZ := Lib.hid (show i + F1 ≤ S.size by omega)
          clear hqi hdk hwd hst hmo hdr hus hne hq1 hd2
          go_wp2_with (go_at_call 23; refine (HF.out _).mono ?_; rintro e w5 ⟨rfl, hw5⟩; rw [hw5]; clear hw5)
          go_roundw
          case rel => exact ⟨i + F1, HSZ.out, by go_num, HQ1, trivial⟩
          case measure => simp [intOf]; omega
    · have hq1 : i = q := by
        rw [hqi.out, List.drop_of_length_le (by rw [sl_size]; omega), cutL_nil]; rfl
      have hli : ¬ ((i : Int) < (S.size : Int)) := by omega
      clear hqi HQ HQZ
      subst hq1
      go_wp2_with (go_at_call 12; refine (HDC.out _).mono ?_; rintro e w7 ⟨⟨A7, c7, rfl, hrow, hk⟩, hO⟩; have HROW := Lib.hid hrow; have HK := Lib.hid hk; have HO7 := Lib.hid hO; clear hrow hk hO)
      go_ret
      have hB : Blk wr r 40 [.string s] := H.out.only HOW.out (by simp)
      have hB2 : Blk (wr.setCell ⟨r, 0, none⟩ (.string SH)) r 40 [.string SH] := hB.set_ 0 _
      have hz := HOW.out.size
      have hO6 : Only [r] w (wr.setCell ⟨r, 0, none⟩ (.string SH)) := (HOW.out.more (by simp)).setCell (.inl (by simp)) _
      have hz2 := hO6.size
      exact ⟨⟨A7, c7, rfl, HROW.out, fun k hk => by have := HK.out k hk; omega⟩, hB2.only HO7.out (by simp), hO6.trans (HO7.out.more (by simp))⟩
end Go.Proofs.YtbpmhleokmcggaaDoor
