/-
  Contract: the reference's Nest.
-/
import Derived.Test.YtgbppdgpengcoaaDoorCt12
namespace Go.Proofs.YtgbppdgpengcoaaDoor
open Go.RowKit Go.BigFrame NT
set_option linter.unusedVariables false
set_option linter.unusedSimpArgs false

abbrev NsC (w : World) (A : Option Addr) (n c : Nat) (r : Nat) : Prop := Calls Tryd.prog 17 #[.slice A n c] w fun e w' => e = .returned (.int .i64 r) ∧ Bel w w'
def NsM (x : NT) : Prop := ∀ (w : World), x.In w (Lt w) → (nsts x.b ≤ 1000000 → NsC w x.A x.b.length x.c (nsts x.b)) ∧ (nsts x.l ≤ 1000000 → NsC w x.B x.l.length x.d (nsts x.l))
set_option maxRecDepth 100000 in
set_option maxHeartbeats 3200000 in
theorem nest_row (l : List NT) (ih : ∀ x ∈ l, NsM x) (A : Option Addr) (c : Nat) (w : World) (hA : Row w (Lt w) A c l) (hs : nsts l ≤ 1000000) : NsC w A l.length c (nsts l) := by
  obtain ⟨n, hn⟩ : ∃ n, n = l.length := ⟨_, rfl⟩
  have hn5 := hA.len
  rw [← hn] at hn5 ⊢
  have HA := Lib.hid hA
  have HI := Lib.hid ih
  have HN := Lib.hid hn
  have HS := Lib.hid hs
  have HBL := Lib.hid block_c
  clear hA ih hn hs
  go_enter Tryd.func17, Tryd.ntmps17
  go_wp2_with fail
  go_loopw [3, 4] (fun s3 s4 wr => ∃ k q : Nat, k ≤ n ∧ q ≤ 1000000 ∧ s3 = .int .i64 q ∧ s4 = .int .i64 k ∧ Hid (q = nsts (l.take k)) ∧ Hid (Bel w wr)) (fun s3 s4 _ => n - (intOf s4).toNat)
  case atStart => exact ⟨0, 0, Nat.zero_le _, by omega, rfl, rfl, Lib.hid (by simp [nsts_nil]), Lib.hid (Bel.refl _)⟩
  case round =>
    obtain ⟨k, q, hk, hq1, rfl, rfl, HQ, HBR⟩ := hrel
    by_cases hlt : k < n
    · have hxt := List.getElem?_eq_getElem (l := l) (i := k) (by have := HN.out; omega)
      generalize l[k]'(by have := HN.out; omega) = x at hxt
      have hst := nsts_step hxt
      have htk := nsts_take l (k + 1)
      have hce := nst_eq x
      have hq5 : max q x.nst ≤ 1000000 := by have := HQ.out; have := HS.out; omega
      obtain ⟨g, o, hAA, hg, ha⟩ := HA.out.cells hxt
      subst hAA
      have HXI := Lib.hid (HA.out.2 x (List.mem_of_getElem? hxt))
      have HMX := Lib.hid (fun W (hb : Bel w W) => HI.out x (List.mem_of_getElem? hxt) W (HXI.out.bel hb))
      have HST : Hid (max q x.nst = nsts (l.take (k + 1))) := Lib.hid (by rw [hst, HQ.out])
      have HOA := Lib.hid ha
      obtain ⟨a0, a1, a2, a3, a4, a5, a6, a7⟩ := ha wr HBR.out
      clear hxt hst htk hg ha
      cases hb : blkI x.k with
      | false =>
        have hc1 : x.nst = 0 := by rw [hce, hb]; rfl
        have HCB := Lib.hid hb
        have HSM : Hid (q = nsts (l.take (k + 1))) := Lib.hid (by have := HST.out; omega)
        clear hce hb hc1 hq5
        go_wp2_with (go_at_call 27; ((with_reducible refine (HBL.out _ _).mono ?_); rintro e w1 ⟨rfl, rfl⟩; rw [HCB.out]))
        go_roundw
        case rel => exact ⟨k + 1, q, by omega, hq1, by go_num, by go_num, HSM, HBR⟩
        case measure => simp [intOf]; omega
      | true =>
        have HCB := Lib.hid hb
        rw [if_pos hb] at hce
        have hb6 : nsts x.b ≤ 1000000 := by omega
        have HC1 := Lib.hid (fun W (hb : Bel w W) => (HMX.out W hb).1 hb6)
        by_cases h2 : x.k = 2
        · rw [if_pos h2] at hce
          have hl6 : nsts x.l ≤ 1000000 := by omega
          have HC2 := Lib.hid (fun W (hb : Bel w W) => (HMX.out W hb).2 hl6)
          obtain ⟨K, hK⟩ : ∃ K, K = max (nsts x.b) (nsts x.l) := ⟨_, rfl⟩
          have HSM : Hid (max q (1 + K) = nsts (l.take (k + 1))) := Lib.hid (by have := HST.out; omega)
          have hK6 : 1 + K ≤ 1000000 := by omega
          have hmax : max (nsts x.b : Int) (nsts x.l : Int) = (K : Int) := by rw [hK]; omega
          rw [h2] at a0 HCB HOA
          generalize nsts x.b = cb at *
          generalize nsts x.l = cl at *
          clear hce hb hq5 h2 hK
          by_cases hqk : q < 1 + K
          · have i1 : (q : Int) < 1 + (K : Int) := by omega
            go_wp2_with (first | (go_at_call 27; ((with_reducible refine (HBL.out _ _).mono ?_); rintro e w1 ⟨rfl, rfl⟩; rw [HCB.out])) | (go_at_call 17; ((with_reducible refine (HC1.out _ HBR.out).mono ?_); rintro e w1 ⟨rfl, hb⟩; have HB1 := Lib.hid (HBR.out.trans hb); clear a0 a1 a2 a3 a4 a5 a6 a7; obtain ⟨a0, a1, a2, a3, a4, a5, a6, a7⟩ := HOA.out w1 HB1.out; clear hb)) | (go_at_call 17; ((with_reducible refine (HC2.out _ HB1.out).mono ?_); rintro e w2 ⟨rfl, hb⟩; have HB2 := Lib.hid (HB1.out.trans hb); clear hb)))
            go_roundw
            case rel => exact ⟨k + 1, 1 + K, by omega, hK6, by go_num, by go_num, Lib.hid (by have := HSM.out; omega), HB2⟩
            case measure => simp [intOf]; omega
          · have i1 : ¬ (q : Int) < 1 + (K : Int) := by omega
            go_wp2_with (first | (go_at_call 27; ((with_reducible refine (HBL.out _ _).mono ?_); rintro e w1 ⟨rfl, rfl⟩; rw [HCB.out])) | (go_at_call 17; ((with_reducible refine (HC1.out _ HBR.out).mono ?_); rintro e w1 ⟨rfl, hb⟩; have HB1 := Lib.hid (HBR.out.trans hb); clear a0 a1 a2 a3 a4 a5 a6 a7; obtain ⟨a0, a1, a2, a3, a4, a5, a6, a7⟩ := HOA.out w1 HB1.out; clear hb)) | (go_at_call 17; ((with_reducible refine (HC2.out _ HB1.out).mono ?_); rintro e w2 ⟨rfl, hb⟩; have HB2 := Lib.hid (HB1.out.trans hb); clear hb)))
            go_roundw
            case rel => exact ⟨k + 1, q, by omega, hq1, by go_num, by go_num, Lib.hid (by have := HSM.out; omega), HB2⟩
            case measure => simp [intOf]; omega
        · rw [if_neg h2] at hce
          have HSM : Hid (max q (1 + nsts x.b) = nsts (l.take (k + 1))) := Lib.hid (by have := HST.out; omega)
          have hK6 : 1 + nsts x.b ≤ 1000000 := by omega
          have h2b : (x.k == 2) = false := by simpa using h2
          generalize nsts x.b = cb at *
          clear hce hb hq5
          by_cases hqk : q < 1 + cb
          · have i1 : (q : Int) < 1 + (cb : Int) := by omega
            go_wp2_with (first | (go_at_call 27; ((with_reducible refine (HBL.out _ _).mono ?_); rintro e w1 ⟨rfl, rfl⟩; rw [HCB.out])) | (go_at_call 17; ((with_reducible refine (HC1.out _ HBR.out).mono ?_); rintro e w1 ⟨rfl, hb⟩; have HB1 := Lib.hid (HBR.out.trans hb); clear a0 a1 a2 a3 a4 a5 a6 a7; obtain ⟨a0, a1, a2, a3, a4, a5, a6, a7⟩ := HOA.out w1 HB1.out; clear hb)))
            go_roundw
            case rel => exact ⟨k + 1, 1 + cb, by omega, hK6, by go_num, by go_num, Lib.hid (by have := HSM.out; omega), HB1⟩
            case measure => simp [intOf]; omega
          · have i1 : ¬ (q : Int) < 1 + (cb : Int) := by omega
            go_wp2_with (first | (go_at_call 27; ((with_reducible refine (HBL.out _ _).mono ?_); rintro e w1 ⟨rfl, rfl⟩; rw [HCB.out])) | (go_at_call 17; ((with_reducible refine (HC1.out _ HBR.out).mono ?_); rintro e w1 ⟨rfl, hb⟩; have HB1 := Lib.hid (HBR.out.trans hb); clear a0 a1 a2 a3 a4 a5 a6 a7; obtain ⟨a0, a1, a2, a3, a4, a5, a6, a7⟩ := HOA.out w1 HB1.out; clear hb)))
            go_roundw
            case rel => exact ⟨k + 1, q, by omega, hq1, by go_num, by go_num, Lib.hid (by have := HSM.out; omega), HB1⟩
            case measure => simp [intOf]; omega
    · obtain rfl : k = n := by omega
      have HE : Hid (q = nsts l) := Lib.hid (by rw [HQ.out, HN.out, List.take_length])
      go_wp2_with fail
      go_ret
      exact ⟨by rw [← HE.out]; rfl, HBR.out⟩
theorem nest_all (x : NT) : NsM x := by
  refine NT.ind (M := NsM) (fun t h1 h2 => ?_) x
  intro w ht
  exact ⟨fun h => nest_row t.b h1 _ _ w ht.body h, fun h => nest_row t.l h2 _ _ w ht.els h⟩
theorem rnest_c {l : List NT} {A : Option Addr} {c : Nat} {w : World} (hA : Row w (Lt w) A c l) (hs : nsts l ≤ 1000000) :
    Calls Tryd.prog 17 #[.slice A l.length c] w fun e w' => e = .returned (.int .i64 (nsts l)) ∧ Bel w w' := nest_row l (fun x _ => nest_all x) A c w hA hs
end Go.Proofs.YtgbppdgpengcoaaDoor
