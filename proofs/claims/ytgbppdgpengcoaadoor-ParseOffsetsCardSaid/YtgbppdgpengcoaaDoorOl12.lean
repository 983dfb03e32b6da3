/-
  The law ParseOffsets, walked.
-/
import Derived.Test.YtgbppdgpengcoaaDoorAl12
import Derived.Test.YtgbppdgpengcoaaDoorWt12
import Derived.Test.YtgbppdgpengcoaaDoorOs12
namespace Go.Proofs.YtgbppdgpengcoaaDoor
open Go.RowKit Go.BigFrame NT
set_option linter.unusedVariables false
set_option linter.unusedSimpArgs false

/-- What the law asks of a result. -/
theorem par_facts {s : ByteArray} {r : LexR} (hr : LexOf s r) (h0 : perrR (parR r) = 0) {m : List NT} (hm : ers m = nodesR (parR r)) :
    pnumR s (parR r) = s.size ∧ cnts m ≤ 4096 ∧ nsts m ≤ 32 ∧ Asc (-1 :: pres m) ∧ (pres m).getLastD (-1) < (s.size : Int) ∧ (s.size = 0 → (pres m).getLastD (-1) = -1) := by
  cases r with
  | error bc => obtain ⟨b, c⟩ := bc; exact absurd h0 (lex_code hr)
  | ok ts =>
    unfold parR at h0 hm ⊢
    dsimp only at h0 hm ⊢
    cases hp : P ts 0 false 0 0 with
    | error ak => obtain ⟨a, k⟩ := ak; rw [hp] at h0; exact absurd h0 (P_code hp)
    | ok x =>
      obtain ⟨l, rr, c'⟩ := x
      rw [hp] at hm
      dsimp only [nodesR, pnumR] at hm ⊢
      obtain ⟨g1, g2, g3, u, g4, g5⟩ := P_good hp (by decide) (by decide)
      have hx : Lx (toL s) 0 ts := by
        unfold LexOf at hr
        split at hr
        · cases hr
        · exact hr
      obtain ⟨a1, a2⟩ := lx_asc hx
      have hcm : cnts m = cnts l := by rw [← cnts_er, hm]
      have hnm : nsts m = nsts l := by rw [← nsts_er, hm]
      have hpm : pres m = pres l := by rw [← pres_er, hm]
      rw [hcm, hnm, hpm]
      have hsub : (pres l).Sublist (ts.map fun t => (t.a : Int)) := by
        rw [g4, List.map_append]
        exact g5.trans (List.sublist_append_left _ _)
      have hmem : ∀ z, z ∈ pres l → 0 ≤ z ∧ z < (s.size : Int) := by
        intro z hz
        obtain ⟨t, ht, rfl⟩ := List.mem_map.1 (hsub.subset hz)
        have := a2 t ht
        rw [toL_len] at this
        omega
      refine ⟨rfl, by omega, by omega, List.pairwise_cons.2 ⟨fun z hz => by have := hmem z hz; omega, List.Pairwise.sublist hsub a1⟩, ?_, ?_⟩
      · rcases getLastD_mem (pres l) (-1) with h | h
        · rw [h]; omega
        · exact (hmem _ h).2
      · intro h0
        rcases getLastD_mem (pres l) (-1) with h | h
        · exact h
        · have := hmem _ h; omega
theorem par_err {s : ByteArray} {r : LexR} (hr : LexOf s r) (hn : numR s r ≤ s.size) : pnumR s (parR r) ≤ s.size ∧ (perrR (parR r) ≠ 0 → nodesR (parR r) = []) := by
  cases r with
  | error bc => obtain ⟨b, c⟩ := bc; exact ⟨hn, fun _ => rfl⟩
  | ok ts =>
    unfold parR
    dsimp only
    cases hp : P ts 0 false 0 0 with
    | ok x => obtain ⟨l, rr, c'⟩ := x; exact ⟨Nat.le_refl _, fun h => absurd rfl h⟩
    | error ak =>
      obtain ⟨a, k⟩ := ak
      refine ⟨?_, fun _ => rfl⟩
      have hx : Lx (toL s) 0 ts := by
        unfold LexOf at hr
        split at hr
        · cases hr
        · exact hr
      obtain ⟨t, ht, he⟩ := P_where hp
      have := (lx_asc hx).2 t ht
      rw [toL_len] at this
      show a ≤ s.size
      omega
set_option maxRecDepth 100000 in
set_option maxHeartbeats 3200000 in
theorem offLaw (s : ByteArray) (w : World) (hT : MX w) (hs : s.size ≤ maxLen) :
    Calls Tryd.prog 8 #[.string s] w fun e w' => e = .returned (.bool true) ∧ Below w.heap.size w w' := by
  have HT := Lib.hid hT
  have HA := Lib.hid (fun (W : World) (h : MX W) => alive_c W h)
  obtain ⟨r, hr, hnum, _, _⟩ := lexOf_total s
  have HP := Lib.hid (fun (W : World) (h : MX W) => parse_c s r W h hr)
  obtain ⟨e1, e2⟩ := par_err hr hnum
  obtain ⟨num, hn⟩ : ∃ num, num = pnumR s (parR r) := ⟨_, rfl⟩
  obtain ⟨er, he⟩ : ∃ er, er = perrR (parR r) := ⟨_, rfl⟩
  rw [← hn] at e1
  rw [← he] at e2
  have HNE := Lib.hid (And.intro hn.symm he.symm)
  have hnI : (num : Int) ≤ (s.size : Int) := by omega
  have hnJ : num ≤ s.size := e1
  have HE2 := Lib.hid e2
  have HF := Lib.hid (fun h (m : List NT) hm => par_facts hr h (m := m) hm)
  have hsz : s.size ≤ 9223372036854775807 := by unfold maxLen at hs; omega
  clear hT hs hr hnum e1 e2 hn he
  by_cases her : er = 0
  · subst her
    by_cases hbig : 5000 < s.size
    · have hi : (5000 : Int) < (s.size : Int) := by omega
      clear hbig
      go_enter Tryd.func8, Tryd.ntmps8
      go_wp2_with (first | (go_at_call 10; ((with_reducible refine (HP.out _ HT.out).mono ?_); rintro e w1 hp; obtain ⟨hb, A, c, m, rfl, h1, hr1⟩ := par_any hp; rw [HNE.out.1, HNE.out.2]; have HB1 := Lib.hid hb; clear hp hb h1 hr1)) | (go_at_call 9; refine (HA.out _ (HT.out.bel HB1.out)).mono ?_; rintro e w2 ⟨rfl, hb⟩; have HB2 := Lib.hid (HB1.out.trans hb); clear hb))
      go_ret
      exact ⟨rfl, HB2.out⟩
    · have hi : ¬ (5000 : Int) < (s.size : Int) := by omega
      clear hbig
      go_enter Tryd.func8, Tryd.ntmps8
      go_wp2_with (go_at_call 10; ((with_reducible refine (HP.out _ HT.out).mono ?_); rintro e w1 hp; obtain ⟨hb, A, c, m, rfl, h1, hr1⟩ := par_any hp; rw [HNE.out.1, HNE.out.2]; have HB1 := Lib.hid hb; have HR1 := Lib.hid hr1.lt; have HFM := Lib.hid (HF.out HNE.out.2 m h1); clear hp hb h1 hr1))
      refine (tooLarge12_c HR1.out).mono ?_
      rintro e w2 ⟨r', hr1, hr0, rfl, hb⟩
      have HB2 := Lib.hid (HB1.out.trans hb)
      have HR2 := Lib.hid (HR1.out.bel hb)
      rcases (show r' = 0 ∨ r' = 1 by omega) with rfl | rfl
      · obtain ⟨f1, f2, f3, f4, f5, f6⟩ := HFM.out
        have HOS := Lib.hid (fun W (hb : Bel w2 W) => offs_c (HR2.out.bel hb) f4)
        obtain ⟨la, hla⟩ : ∃ la, la = (pres m).getLastD (-1) := ⟨_, rfl⟩
        rw [← hla] at f5 f6 HOS
        have hc6 : cnts m ≤ 1000000 := by omega
        have hn6 : nsts m ≤ 1000000 := by omega
        have HC := Lib.hid (fun W (hb : Bel w2 W) => count_c (HR2.out.bel hb) hc6)
        have HN := Lib.hid (fun W (hb : Bel w2 W) => nest_c (HR2.out.bel hb) hn6)
        generalize cnts m = cm at HC f2
        generalize nsts m = nm at HN f3
        have f2I : (cm : Int) ≤ 4096 := by omega
        have f3I : (nm : Int) ≤ 32 := by omega
        have hmx : la < max 1 (s.size : Int) := by omega
        have hmx2 : ¬ max 1 (s.size : Int) ≤ la := by omega
        clear hb hr0 hr1 f1 f4 f5 f6 hc6 hn6 hla
        go_wp2_with (first | (go_at_call 19; refine (HOS.out _ (Bel.refl _)).mono ?_; rintro e w3 ⟨rfl, hb⟩; have HB3 := Lib.hid hb; clear hb) | (go_at_call 9; refine (HA.out _ (HT.out.bel (HB2.out.trans HB3.out))).mono ?_; rintro e w4 ⟨rfl, hb⟩; have HB4 := Lib.hid (HB3.out.trans hb); clear hb) | (go_at_call 14; refine (HC.out _ HB4.out).mono ?_; rintro e w5 ⟨rfl, hb⟩; have HB5 := Lib.hid (HB4.out.trans hb); clear hb) | (go_at_call 16; refine (HN.out _ HB5.out).mono ?_; rintro e w6 ⟨rfl, hb⟩; have HB6 := Lib.hid (HB5.out.trans hb); clear hb))
        go_ret
        exact ⟨rfl, HB2.out.trans HB6.out⟩
      · clear hb hr0 hr1
        go_wp2_with (go_at_call 9; refine (HA.out _ (HT.out.bel HB2.out)).mono ?_; rintro e w3 ⟨rfl, hb⟩; have HB3 := Lib.hid (HB2.out.trans hb); clear hb)
        go_ret
        exact ⟨rfl, HB3.out⟩
  · have her2 : ¬ (er : Int) = 0 := by omega
    have her3 : ((er : Int) != 0) = true := bne_iff_ne.2 her2
    have her4 : ((er : Int) == 0) = false := by rw [beq_eq_false_iff_ne]; exact her2
    have HER := Lib.hid her
    clear her
    go_enter Tryd.func8, Tryd.ntmps8
    go_wp2_with (first | (go_at_call 10; ((with_reducible refine (HP.out _ HT.out).mono ?_); rintro e w1 hp; obtain ⟨hb, A, c, m, rfl, h1, hr1⟩ := par_any hp; rw [HNE.out.1, HNE.out.2]; rw [show m.length = 0 by rw [← ers_len, h1, HE2.out HER.out]; rfl]; have HB1 := Lib.hid hb; clear hp hb h1 hr1)) | (go_at_call 9; refine (HA.out _ (HT.out.bel HB1.out)).mono ?_; rintro e w2 ⟨rfl, hb⟩; have HB2 := Lib.hid (HB1.out.trans hb); clear hb))
    all_goals (go_ret; exact ⟨rfl, HB2.out⟩)
end Go.Proofs.YtgbppdgpengcoaaDoor
