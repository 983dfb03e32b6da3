/-
  Contract of utf8.ValidString.
-/
import Derived.Test.YtbpmhleokmcggaaDoorWord
import Derived.LoopTactic
import Derived.WalkMore
namespace Go.Proofs.YtbpmhleokmcggaaDoor
open Go.RowKit Go.BigFrame
set_option linter.unusedVariables false
set_option linter.unusedSimpArgs false

theorem valL_bad {l : List UInt8} (hl : l ≠ []) (h : (fst l).1 = 0) : valL l = false := by rw [valL_step hl, if_pos h]
theorem valL_good {l : List UInt8} {z : Nat} (hl : l ≠ []) (h : fst l = (z, false)) (hz : z ≠ 0) : valL l = valL (l.drop z) := by
  rw [valL_step hl, if_neg (by rw [h]; exact hz), dk_valid hl (by rw [h]; exact hz), h]
theorem firstC_bad {n b1 b2 b3 z lo hi : Nat} (h : n < z ∨ b1 < lo ∨ hi < b1 ∨ (3 ≤ z ∧ (b2 < 128 ∨ 191 < b2)) ∨ (4 ≤ z ∧ (b3 < 128 ∨ 191 < b3))) (k2 : 2 ≤ z) (k4 : z ≤ 4) : (firstC n b1 b2 b3 z lo hi).1 = 0 := by
  unfold firstC
  repeat' split
  all_goals first | rfl | (exfalso; omega)
theorem firstC_good {n b1 b2 b3 z lo hi : Nat} (hn : z ≤ n) (h1 : ¬ (b1 < lo ∨ hi < b1)) (h2 : 3 ≤ z → ¬ (b2 < 128 ∨ 191 < b2)) (h3 : 4 ≤ z → ¬ (b3 < 128 ∨ 191 < b3)) (k2 : 2 ≤ z) (k4 : z ≤ 4) : firstC n b1 b2 b3 z lo hi = (z, false) := by
  unfold firstC
  rw [if_neg (by omega), if_neg h1]
  by_cases g2 : z ≤ 2
  · rw [if_pos g2]; congr 1; omega
  rw [if_neg g2, if_neg (by omega), if_neg (h2 (by omega))]
  by_cases g3 : z ≤ 3
  · rw [if_pos g3]; congr 1; omega
  rw [if_neg g3, if_neg (by omega), if_neg (h3 (by omega))]
  congr 1; omega
theorem fst_high {t : ByteArray} (h0 : t.size ≠ 0) (hb : 128 ≤ bt t.data.toList 0) : fst t.data.toList = if szT (bt t.data.toList 0) = 0 then (0, false) else firstC t.size (bt t.data.toList 1) (bt t.data.toList 2) (bt t.data.toList 3) (szT (bt t.data.toList 0)) (loT (bt t.data.toList 0)) (hiT (bt t.data.toList 0)) := by
  rw [fst_str h0]
  unfold firstN
  rw [if_neg (by omega)]
theorem only_drew {S : List Nat} {w w1 w2 : World} (h : Only S w w1) (hd : ∃ n, w2 = w1.drewN n) : Only S w w2 := by
  obtain ⟨n, rfl⟩ := hd
  exact h.drewN n
/-- What is still to be read (fewer than n bytes), and the world. -/
def Rest (w : World) (L : List UInt8) (n : Nat) (v : Value) (w' : World) : Prop := ∃ t : ByteArray, v = .string t ∧ t.size < n ∧ valL t.data.toList = valL L ∧ Only [] w w'
theorem from_size (s : ByteArray) (k : Nat) : (s.extract k s.size).size = s.size - k := by
  rw [ByteArray.size_extract]; omega
theorem from_from (s : ByteArray) (k : Nat) : s.data.toList.drop k = (s.extract k s.size).data.toList := (sl_from s k).symm
/-- Bytes that are ASCII, eight at a time. -/
theorem skip_at {s a : ByteArray} {k : Nat} (hk : k + 8 ≤ s.size) (ha : s.extract k s.size = a) (h : ascii8 a.data.toList) : valL (s.data.toList.drop k) = valL (s.data.toList.drop (k + 8)) := by
  rw [← ha, sl_from] at h
  rw [valL_skip8 (by rw [List.length_drop, sl_size]; omega) h, List.drop_drop]
theorem to_from {s u : ByteArray} {k : Nat} (hu : s.extract k s.size = u) : s.data.toList.drop k = u.data.toList := by rw [← hu, sl_from]
theorem skip_8 {s u : ByteArray} (hk : 8 ≤ s.size) (hu : s.extract 8 s.size = u) (h : ascii8 s.data.toList) : valL s.data.toList = valL u.data.toList := by
  rw [valL_skip8 (by rw [sl_size]; omega) h, to_from hu]
theorem skip_16 {s a u : ByteArray} (hk : 16 ≤ s.size) (ha : s.extract 8 s.size = a) (hu : s.extract 16 s.size = u) (h : ascii8 s.data.toList) (h1 : ascii8 a.data.toList) : valL s.data.toList = valL u.data.toList := by
  rw [valL_skip8 (by rw [sl_size]; omega) h, skip_at (by omega) ha h1, to_from hu]
theorem skip_32 {s a b c u : ByteArray} (hk : 32 ≤ s.size) (ha : s.extract 8 s.size = a) (hb : s.extract 16 s.size = b) (hc : s.extract 24 s.size = c) (hu : s.extract 32 s.size = u)
    (h : ascii8 s.data.toList) (h1 : ascii8 a.data.toList) (h2 : ascii8 b.data.toList) (h3 : ascii8 c.data.toList) : valL s.data.toList = valL u.data.toList := by
  rw [valL_skip8 (by rw [sl_size]; omega) h, skip_at (by omega) ha h1, skip_at (by omega) hb h2, skip_at (by omega) hc h3, to_from hu]
set_option maxRecDepth 100000 in
set_option maxHeartbeats 8000000 in
theorem validString_c {w : World} (hT : Tabs w) (s : ByteArray) :
    Calls Tryd.prog 25 #[.string s] w fun e w' => e = .returned (.bool (valL s.data.toList)) ∧ Only [] w w' := by
  have HT := Lib.hid hT
  clear hT
  obtain ⟨L, hL⟩ : ∃ L, s.data.toList = L := ⟨_, rfl⟩
  rw [hL]
  have HV := Lib.hid (show valL s.data.toList = valL L by rw [hL])
  clear hL
  go_enter Tryd.func25, Tryd.ntmps25
  go_wp2
  go_loopw [0] (fun v w' => Rest w L (s.size + 1) v w') (fun v w' => (match v with | .string t => t.size | _ => 0))
  case atStart => exact ⟨s, rfl, Nat.lt_succ_self _, HV.out, Only.refl _ _⟩
  case round =>
    obtain ⟨t, rfl, hts, hv, hO⟩ := hrel
    have HS := Lib.hid hts
    clear hts
    clear HV
    have HV := Lib.hid hv
    have HO := Lib.hid hO
    clear hv hO
    by_cases h0 : t.size = 0
    · have hz : ¬ ((0 : Int) < (t.size : Int)) := by omega
      go_wp2
      go_ret
      refine ⟨?_, HO.out⟩
      rw [← HV.out, sl_nil h0, valL_nil]
      rfl
    have hz : (0 : Int) < (t.size : Int) := by omega
    by_cases ha : bt t.data.toList 0 < 128
    · have hsz : 0 < t.size := by omega
      have e0 : (t[0]'hsz).toNat = bt t.data.toList 0 := sl_at t 0 hsz
      have hai : ((bt t.data.toList 0 : Nat) : Int) < 128 := by omega
      have hva := valL_ascii (sl_ne h0) ha
      have hone : (1 : Int) ≤ (t.size : Int) := by omega
      obtain ⟨u, hu⟩ : ∃ u, t.extract 1 t.size = u := ⟨_, rfl⟩
      have hus : u.size = t.size - 1 := by rw [← hu, from_size]
      rw [from_from, hu] at hva
      rw [hva] at HV
      have HUS := Lib.hid hus
      have hut : u.size < t.size := by omega
      have hun : u.size < s.size + 1 := Nat.lt_trans hut HS.out
      generalize bt t.data.toList 0 = b0 at *
      clear hva hus
      by_cases g8 : u.size ≤ 8
      · have g8i : ¬ ((8 : Int) < (u.size : Int)) := by omega
        go_wp2
        exact ⟨⟨u, rfl, hun, HV.out, HO.out⟩, hut⟩
      have g8i : (8 : Int) < (u.size : Int) := by omega
      have h8u : (8 : Int) ≤ (u.size : Int) := by omega
      have HW := Lib.hid (fun w5 : World => word_c (w := w5) u (by omega))
      by_cases hw1 : bits .and .u64 (wordL u.data.toList) 9259542123273814144 = 0
      · have hA := word1 hw1
        obtain ⟨u2, hu2⟩ : ∃ u2, u.extract 8 u.size = u2 := ⟨_, rfl⟩
        have hus2 : u2.size = u.size - 8 := by rw [← hu2, from_size]
        have hva := skip_8 (by omega) hu2 hA
        rw [hva] at HV
        generalize wordL u.data.toList = W1 at *
        have hut2 : u2.size < t.size := by omega
        have hun2 : u2.size < s.size + 1 := by omega
        clear hva hA
        by_cases g16 : u2.size ≤ 16
        · have g16i : ¬ ((16 : Int) < (u2.size : Int)) := by omega
          clear hus2
          go_wp2_with (go_at_call 29; refine (HW.out _).mono ?_; rintro e w5 ⟨rfl, hw5⟩; have HO5 := Lib.hid (only_drew HO.out hw5); clear hw5)
          have g16j : ¬ ((16 : Int) < (u2.size : Int)) := by omega
          go_quiet (fail)
          go_wp2_with fail
          exact ⟨⟨u2, rfl, hun2, HV.out, HO5.out.drewN _⟩, hut2⟩
        have g16i : (16 : Int) < (u2.size : Int) := by omega
        have g16j : (16 : Int) ≤ (u2.size : Int) := by omega
        have g16k : (8 : Int) ≤ (u2.size : Int) := by omega
        have HW2 := Lib.hid (fun w5 : World => word_c (w := w5) u2 (by omega))
        obtain ⟨u3, hu3⟩ : ∃ u3, u2.extract 8 u2.size = u3 := ⟨_, rfl⟩
        have hus3 : u3.size = u2.size - 8 := by rw [← hu3, from_size]
        have HW3 := Lib.hid (fun w5 : World => word_c (w := w5) u3 (by omega))
        by_cases hw2 : bits .and .u64 (bits .or .u64 (wordL u2.data.toList) (wordL u3.data.toList)) 9259542123273814144 = 0
        · obtain ⟨u4, hu4⟩ : ∃ u4, u2.extract 16 u2.size = u4 := ⟨_, rfl⟩
          have hus4 : u4.size = u2.size - 16 := by rw [← hu4, from_size]
          have hva := skip_16 (by omega) hu3 hu4 (word2 hw2).1 (word2 hw2).2
          rw [hva] at HV
          generalize wordL u2.data.toList = W2 at *
          generalize wordL u3.data.toList = W3 at *
          have hut4 : u4.size < t.size := by omega
          clear hus2 hus3 hus4 hva
          go_wp2_with (go_at_call 29; refine (HW.out _).mono ?_; rintro e w5 ⟨rfl, hw5⟩; have HO5 := Lib.hid (only_drew HO.out hw5); clear hw5)
          go_quiet ((go_at_call 29; first | with_reducible exact Calls.quiet_of (HW2.out _) | with_reducible exact Calls.quiet_of (HW3.out _)))
          go_wp2_with fail
          go_loopw [0] (fun v w' => Rest w L t.size v w') (fun v w' => (match v with | .string t => t.size | _ => 0))
          case atStart => exact ⟨u4, rfl, hut4, HV.out, HO5.out.drewN _⟩
          case round =>
            obtain ⟨q, rfl, hq, hvq, hOq⟩ := hrel
            have HVQ := Lib.hid hvq
            have HOQ := Lib.hid hOq
            clear hvq hOq HV HO HO5
            by_cases g32 : q.size ≤ 32
            · have g32i : ¬ ((32 : Int) < (q.size : Int)) := by omega
              go_wp2_with fail
              have g32j : ¬ ((32 : Int) < (q.size : Int)) := by omega
              go_quiet (fail)
              go_wp2_with fail
              exact ⟨⟨q, rfl, Nat.lt_trans hq HS.out, HVQ.out, HOQ.out.drewN _⟩, hq⟩
            have g32i : (32 : Int) < (q.size : Int) := by omega
            have g32a : (8 : Int) ≤ (q.size : Int) := by omega
            have g32b : (16 : Int) ≤ (q.size : Int) := by omega
            have g32c : (24 : Int) ≤ (q.size : Int) := by omega
            have g32d : (32 : Int) ≤ (q.size : Int) := by omega
            obtain ⟨qa, hqa⟩ : ∃ u, q.extract 8 q.size = u := ⟨_, rfl⟩
            obtain ⟨qb, hqb⟩ : ∃ u, q.extract 16 q.size = u := ⟨_, rfl⟩
            obtain ⟨qc, hqc⟩ : ∃ u, q.extract 24 q.size = u := ⟨_, rfl⟩
            have sa : qa.size = q.size - 8 := by rw [← hqa, from_size]
            have sb : qb.size = q.size - 16 := by rw [← hqb, from_size]
            have sc : qc.size = q.size - 24 := by rw [← hqc, from_size]
            have HA0 := Lib.hid (fun w5 : World => word_c (w := w5) q (by omega))
            have HAa := Lib.hid (fun w5 : World => word_c (w := w5) qa (by omega))
            have HAb := Lib.hid (fun w5 : World => word_c (w := w5) qb (by omega))
            have HAc := Lib.hid (fun w5 : World => word_c (w := w5) qc (by omega))
            clear sa sb sc
            by_cases hw4 : bits .and .u64 (bits .or .u64 (bits .or .u64 (wordL q.data.toList) (wordL qa.data.toList)) (bits .or .u64 (wordL qb.data.toList) (wordL qc.data.toList))) 9259542123273814144 = 0
            · obtain ⟨qd, hqd⟩ : ∃ u, q.extract 32 q.size = u := ⟨_, rfl⟩
              have sd : qd.size = q.size - 32 := by rw [← hqd, from_size]
              have hva := skip_32 (by omega) hqa hqb hqc hqd (word4 hw4).1 (word4 hw4).2.1 (word4 hw4).2.2.1 (word4 hw4).2.2.2
              have HVD := Lib.hid (hva.symm.trans HVQ.out)
              have hqd2 : qd.size < q.size := by omega
              generalize wordL q.data.toList = Q0 at *
              generalize wordL qa.data.toList = Qa at *
              generalize wordL qb.data.toList = Qb at *
              generalize wordL qc.data.toList = Qc at *
              clear sd hva
              go_wp2_with fail
              go_quiet ((go_at_call 29; first | with_reducible exact Calls.quiet_of (HA0.out _) | with_reducible exact Calls.quiet_of (HAa.out _) | with_reducible exact Calls.quiet_of (HAb.out _) | with_reducible exact Calls.quiet_of (HAc.out _)))
              go_wp2_with fail
              exact ⟨⟨qd, rfl, Nat.lt_trans hqd2 hq, HVD.out, HOQ.out.drewN _⟩, hqd2⟩
            · generalize wordL q.data.toList = Q0 at *
              generalize wordL qa.data.toList = Qa at *
              generalize wordL qb.data.toList = Qb at *
              generalize wordL qc.data.toList = Qc at *
              go_wp2_with fail
              go_quiet ((go_at_call 29; first | with_reducible exact Calls.quiet_of (HA0.out _) | with_reducible exact Calls.quiet_of (HAa.out _) | with_reducible exact Calls.quiet_of (HAb.out _) | with_reducible exact Calls.quiet_of (HAc.out _)))
              go_wp2_with fail
              exact ⟨⟨q, rfl, Nat.lt_trans hq HS.out, HVQ.out, HOQ.out.drewN _⟩, hq⟩
        · generalize wordL u2.data.toList = W2 at *
          generalize wordL u3.data.toList = W3 at *
          clear hus2 hus3
          go_wp2_with (go_at_call 29; refine (HW.out _).mono ?_; rintro e w5 ⟨rfl, hw5⟩; have HO5 := Lib.hid (only_drew HO.out hw5); clear hw5)
          go_quiet ((go_at_call 29; first | with_reducible exact Calls.quiet_of (HW2.out _) | with_reducible exact Calls.quiet_of (HW3.out _)))
          go_wp2_with fail
          exact ⟨⟨u2, rfl, hun2, HV.out, HO5.out.drewN _⟩, hut2⟩
      · generalize wordL u.data.toList = W1 at *
        go_wp2_with (go_at_call 29; refine (HW.out _).mono ?_; rintro e w5 ⟨rfl, hw5⟩; have HO5 := Lib.hid (only_drew HO.out hw5); clear hw5)
        exact ⟨⟨u, rfl, hun, HV.out, HO5.out⟩, hut⟩
    have hsz : 0 < t.size := by omega
    have e0 : (t[0]'hsz).toNat = bt t.data.toList 0 := sl_at t 0 hsz
    have hai : ¬ (((bt t.data.toList 0 : Nat) : Int) < 128) := by omega
    have hfh := fst_high h0 (by omega)
    have HTW := Lib.hid (HT.out.only HO.out)
    have hc0 := HTW.out.1 (bt t.data.toList 0) (bt_lt _ _)
    have hne := sl_ne h0
    have hg := valL_good hne (z := szT (bt t.data.toList 0))
    have hb := valL_bad hne
    have es1 : ∀ h : 1 < t.size, (t[1]'h).toNat = bt t.data.toList 1 := fun h => sl_at t 1 h
    have es2 : ∀ h : 2 < t.size, (t[2]'h).toNat = bt t.data.toList 2 := fun h => sl_at t 2 h
    have es3 : ∀ h : 3 < t.size, (t[3]'h).toNat = bt t.data.toList 3 := fun h => sl_at t 3 h
    have hb256 : ((bt t.data.toList 0 : Nat) : Int) < 256 := by have := bt_lt t.data.toList 0; omega
    rcases first_class (bt_lt t.data.toList 0) with ⟨_, hbb⟩ | ⟨hX, _, hs0⟩ | ⟨i, hi, hX, k2, k4, hlo, hhi, _⟩
    · exact absurd hbb ha
    · rw [hs0, if_pos rfl] at hfh
      have HB := Lib.hid ((hb (by rw [hfh])).symm.trans HV.out)
      rw [hX] at hc0
      have ha0 := (HTW.out.2 15 (by omega)).1
      have ha1 := (HTW.out.2 15 (by omega)).2
      clear hg hb hfh hX es1 es2 es3 hs0 hne
      generalize bt t.data.toList 0 = b0 at *
      go_wp2_with fail
      go_ret
      refine ⟨?_, HO.out.alloc _⟩
      rw [← HB.out]
      rfl
    have ha0 := (HTW.out.2 i hi).1
    have ha1 := (HTW.out.2 i hi).2
    rw [Nat.mul_comm 2 i] at ha0 ha1
    rw [hlo] at ha0
    rw [hhi] at ha1
    rw [hX] at hc0
    have hi16 : (i : Int) < 16 := by omega
    rw [if_neg (by omega)] at hfh
    have HBAD := Lib.hid (fun hx => hb (by rw [hfh]; exact firstC_bad hx k2 k4))
    have HGOOD := Lib.hid (fun h0 h1 h2 h3 => hg (by rw [hfh]; exact firstC_good h0 h1 h2 h3 k2 k4) (by omega))
    clear hX hlo hhi hb hg hfh hne
    generalize szT (bt t.data.toList 0) = z at *
    generalize loT (bt t.data.toList 0) = lo at *
    generalize hiT (bt t.data.toList 0) = hj at *
    generalize bt t.data.toList 0 = b0 at *
    generalize bt t.data.toList 1 = b1 at *
    generalize bt t.data.toList 2 = b2 at *
    generalize bt t.data.toList 3 = b3 at *
    obtain ⟨X, hX⟩ : ∃ X : Nat, X = 16 * i + z := ⟨_, rfl⟩
    rw [← hX] at hc0
    have hshr : (X : Int) / 16 = (i : Int) := by omega
    have hz3 : z = 2 ∨ z = 3 ∨ z = 4 := by omega
    rcases hz3 with rfl | rfl | rfl
    · have hmod : (X : Int) % 8 = 2 := by omega
      clear hX
      go_wp2_with fail
      by_cases c1 : t.size < 2
      · have c1i : (t.size : Int) < 2 := by omega
        have HB := Lib.hid ((HBAD.out (by omega)).symm.trans HV.out)
        clear es1 es2 es3
        go_quiet (fail)
        go_wp2_with fail
        go_ret
        refine ⟨?_, (HO.out.alloc _).drewN _⟩
        rw [← HB.out]
        rfl
      have c1i : ¬ ((t.size : Int) < 2) := by omega
      have n1 : (1 : Int) < (t.size : Int) := by omega
      have f1 := es1 (by omega)
      by_cases c2 : b1 < lo
      · have c2i : (b1 : Int) < (lo : Int) := by omega
        have HB := Lib.hid ((HBAD.out (by omega)).symm.trans HV.out)
        clear es1 es2 es3
        go_quiet (fail)
        go_wp2_with fail
        go_ret
        refine ⟨?_, (HO.out.alloc _).drewN _⟩
        rw [← HB.out]
        rfl
      have c2i : ¬ ((b1 : Int) < (lo : Int)) := by omega
      by_cases c3 : hj < b1
      · have c3i : (hj : Int) < (b1 : Int) := by omega
        have HB := Lib.hid ((HBAD.out (by omega)).symm.trans HV.out)
        clear es1 es2 es3
        go_quiet (fail)
        go_wp2_with fail
        go_ret
        refine ⟨?_, (HO.out.alloc _).drewN _⟩
        rw [← HB.out]
        rfl
      have c3i : ¬ ((hj : Int) < (b1 : Int)) := by omega
      obtain ⟨u, hu⟩ : ∃ u, t.extract 2 t.size = u := ⟨_, rfl⟩
      have hus : u.size = t.size - 2 := by rw [← hu, from_size]
      have hut : u.size < t.size := by omega
      have hva := HGOOD.out (by omega) (by omega) (by omega) (by omega)
      rw [to_from hu] at hva
      have HVU := Lib.hid (hva.symm.trans HV.out)
      have hle : (2 : Int) ≤ (t.size : Int) := by omega
      clear es1 es2 es3 hva hus
      go_quiet (fail)
      go_wp2_with fail
      exact ⟨⟨u, rfl, Nat.lt_trans hut HS.out, HVU.out, (HO.out.alloc _).drewN _⟩, hut⟩
    · have hmod : (X : Int) % 8 = 3 := by omega
      clear hX
      go_wp2_with fail
      by_cases c1 : t.size < 3
      · have c1i : (t.size : Int) < 3 := by omega
        have HB := Lib.hid ((HBAD.out (by omega)).symm.trans HV.out)
        clear es1 es2 es3
        go_quiet (fail)
        go_wp2_with fail
        go_ret
        refine ⟨?_, (HO.out.alloc _).drewN _⟩
        rw [← HB.out]
        rfl
      have c1i : ¬ ((t.size : Int) < 3) := by omega
      have n1 : (1 : Int) < (t.size : Int) := by omega
      have n2 : (2 : Int) < (t.size : Int) := by omega
      have f1 := es1 (by omega)
      have f2 := es2 (by omega)
      by_cases c2 : b1 < lo
      · have c2i : (b1 : Int) < (lo : Int) := by omega
        have HB := Lib.hid ((HBAD.out (by omega)).symm.trans HV.out)
        clear es1 es2 es3
        go_quiet (fail)
        go_wp2_with fail
        go_ret
        refine ⟨?_, (HO.out.alloc _).drewN _⟩
        rw [← HB.out]
        rfl
      have c2i : ¬ ((b1 : Int) < (lo : Int)) := by omega
      by_cases c3 : hj < b1
      · have c3i : (hj : Int) < (b1 : Int) := by omega
        have HB := Lib.hid ((HBAD.out (by omega)).symm.trans HV.out)
        clear es1 es2 es3
        go_quiet (fail)
        go_wp2_with fail
        go_ret
        refine ⟨?_, (HO.out.alloc _).drewN _⟩
        rw [← HB.out]
        rfl
      have c3i : ¬ ((hj : Int) < (b1 : Int)) := by omega
      by_cases d2 : b2 < 128
      · have d2i : (b2 : Int) < 128 := by omega
        have HB := Lib.hid ((HBAD.out (by omega)).symm.trans HV.out)
        clear es1 es2 es3
        go_quiet (fail)
        go_wp2_with fail
        go_ret
        refine ⟨?_, (HO.out.alloc _).drewN _⟩
        rw [← HB.out]
        rfl
      have d2i : ¬ ((b2 : Int) < 128) := by omega
      by_cases e2x : 191 < b2
      · have e2i : 191 < (b2 : Int) := by omega
        have HB := Lib.hid ((HBAD.out (by omega)).symm.trans HV.out)
        clear es1 es2 es3
        go_quiet (fail)
        go_wp2_with fail
        go_ret
        refine ⟨?_, (HO.out.alloc _).drewN _⟩
        rw [← HB.out]
        rfl
      have e2i : ¬ (191 < (b2 : Int)) := by omega
      obtain ⟨u, hu⟩ : ∃ u, t.extract 3 t.size = u := ⟨_, rfl⟩
      have hus : u.size = t.size - 3 := by rw [← hu, from_size]
      have hut : u.size < t.size := by omega
      have hva := HGOOD.out (by omega) (by omega) (by omega) (by omega)
      rw [to_from hu] at hva
      have HVU := Lib.hid (hva.symm.trans HV.out)
      have hle : (3 : Int) ≤ (t.size : Int) := by omega
      clear es1 es2 es3 hva hus
      go_quiet (fail)
      go_wp2_with fail
      exact ⟨⟨u, rfl, Nat.lt_trans hut HS.out, HVU.out, (HO.out.alloc _).drewN _⟩, hut⟩
    · have hmod : (X : Int) % 8 = 4 := by omega
      clear hX
      go_wp2_with fail
      by_cases c1 : t.size < 4
      · have c1i : (t.size : Int) < 4 := by omega
        have HB := Lib.hid ((HBAD.out (by omega)).symm.trans HV.out)
        clear es1 es2 es3
        go_quiet (fail)
        go_wp2_with fail
        go_ret
        refine ⟨?_, (HO.out.alloc _).drewN _⟩
        rw [← HB.out]
        rfl
      have c1i : ¬ ((t.size : Int) < 4) := by omega
      have n1 : (1 : Int) < (t.size : Int) := by omega
      have n2 : (2 : Int) < (t.size : Int) := by omega
      have n3 : (3 : Int) < (t.size : Int) := by omega
      have f1 := es1 (by omega)
      have f2 := es2 (by omega)
      have f3 := es3 (by omega)
      by_cases c2 : b1 < lo
      · have c2i : (b1 : Int) < (lo : Int) := by omega
        have HB := Lib.hid ((HBAD.out (by omega)).symm.trans HV.out)
        clear es1 es2 es3
        go_quiet (fail)
        go_wp2_with fail
        go_ret
        refine ⟨?_, (HO.out.alloc _).drewN _⟩
        rw [← HB.out]
        rfl
      have c2i : ¬ ((b1 : Int) < (lo : Int)) := by omega
      by_cases c3 : hj < b1
      · have c3i : (hj : Int) < (b1 : Int) := by omega
        have HB := Lib.hid ((HBAD.out (by omega)).symm.trans HV.out)
        clear es1 es2 es3
        go_quiet (fail)
        go_wp2_with fail
        go_ret
        refine ⟨?_, (HO.out.alloc _).drewN _⟩
        rw [← HB.out]
        rfl
      have c3i : ¬ ((hj : Int) < (b1 : Int)) := by omega
      by_cases d2 : b2 < 128
      · have d2i : (b2 : Int) < 128 := by omega
        have HB := Lib.hid ((HBAD.out (by omega)).symm.trans HV.out)
        clear es1 es2 es3
        go_quiet (fail)
        go_wp2_with fail
        go_ret
        refine ⟨?_, (HO.out.alloc _).drewN _⟩
        rw [← HB.out]
        rfl
      have d2i : ¬ ((b2 : Int) < 128) := by omega
      by_cases e2x : 191 < b2
      · have e2i : 191 < (b2 : Int) := by omega
        have HB := Lib.hid ((HBAD.out (by omega)).symm.trans HV.out)
        clear es1 es2 es3
        go_quiet (fail)
        go_wp2_with fail
        go_ret
        refine ⟨?_, (HO.out.alloc _).drewN _⟩
        rw [← HB.out]
        rfl
      have e2i : ¬ (191 < (b2 : Int)) := by omega
      by_cases d3 : b3 < 128
      · have d3i : (b3 : Int) < 128 := by omega
        have HB := Lib.hid ((HBAD.out (by omega)).symm.trans HV.out)
        clear es1 es2 es3
        go_quiet (fail)
        go_wp2_with fail
        go_ret
        refine ⟨?_, (HO.out.alloc _).drewN _⟩
        rw [← HB.out]
        rfl
      have d3i : ¬ ((b3 : Int) < 128) := by omega
      by_cases e3x : 191 < b3
      · have e3i : 191 < (b3 : Int) := by omega
        have HB := Lib.hid ((HBAD.out (by omega)).symm.trans HV.out)
        clear es1 es2 es3
        go_quiet (fail)
        go_wp2_with fail
        go_ret
        refine ⟨?_, (HO.out.alloc _).drewN _⟩
        rw [← HB.out]
        rfl
      have e3i : ¬ (191 < (b3 : Int)) := by omega
      obtain ⟨u, hu⟩ : ∃ u, t.extract 4 t.size = u := ⟨_, rfl⟩
      have hus : u.size = t.size - 4 := by rw [← hu, from_size]
      have hut : u.size < t.size := by omega
      have hva := HGOOD.out (by omega) (by omega) (by omega) (by omega)
      rw [to_from hu] at hva
      have HVU := Lib.hid (hva.symm.trans HV.out)
      have hle : (4 : Int) ≤ (t.size : Int) := by omega
      clear es1 es2 es3 hva hus
      go_quiet (fail)
      go_wp2_with fail
      exact ⟨⟨u, rfl, Nat.lt_trans hut HS.out, HVU.out, (HO.out.alloc _).drewN _⟩, hut⟩
end Go.Proofs.YtbpmhleokmcggaaDoor
