/-
  Contracts: the reference's block, Count and Nest.
-/
import Derived.Test.YtgbppdgpengcoaaDoorNm
namespace Go.Proofs.YtgbppdgpengcoaaDoor
open Go.RowKit Go.BigFrame NT
set_option linter.unusedVariables false
set_option linter.unusedSimpArgs false

theorem block_c (k : Int) (w : World) : Calls Tryd.prog 27 #[.int .i64 k] w fun e w' => e = .returned (.bool (blkI k)) ∧ w' = w := by
  by_cases h2 : k = 2
  · subst h2
    go_enter Tryd.func27, Tryd.ntmps27
    go_wp2_with fail
    go_ret
    exact ⟨rfl, rfl⟩
  by_cases h3 : k = 3
  · subst h3
    go_enter Tryd.func27, Tryd.ntmps27
    go_wp2_with fail
    go_ret
    exact ⟨rfl, rfl⟩
  by_cases h6 : k = 6
  · subst h6
    go_enter Tryd.func27, Tryd.ntmps27
    go_wp2_with fail
    go_ret
    exact ⟨rfl, rfl⟩
  have e2 : (k == 2) = false := by simpa using h2
  have e3 : (k == 3) = false := by simpa using h3
  have e6 : (k == 6) = false := by simpa using h6
  have hb : blkI k = false := by unfold blkI; rw [e2, e3, e6]; rfl
  have HB := Lib.hid hb
  clear hb
  go_enter Tryd.func27, Tryd.ntmps27
  go_wp2_with fail
  go_ret
  exact ⟨by rw [HB.out]; rfl, rfl⟩

/-! ### Count -/
abbrev CnC (w : World) (A : Option Addr) (n c : Nat) (r : Nat) : Prop := Calls Tryd.prog 15 #[.slice A n c] w fun e w' => e = .returned (.int .i64 r) ∧ Bel w w'
def CnM (x : NT) : Prop := ∀ (w : World), x.In w (Lt w) → (cnts x.b ≤ 1000000 → CnC w x.A x.b.length x.c (cnts x.b)) ∧ (cnts x.l ≤ 1000000 → CnC w x.B x.l.length x.d (cnts x.l))
set_option maxRecDepth 100000 in
set_option maxHeartbeats 3200000 in
theorem count_row (l : List NT) (ih : ∀ x ∈ l, CnM x) (A : Option Addr) (c : Nat) (w : World) (hA : Row w (Lt w) A c l) (hs : cnts l ≤ 1000000) : CnC w A l.length c (cnts l) := by
  obtain ⟨n, hn⟩ : ∃ n, n = l.length := ⟨_, rfl⟩
  have hn5 : n ≤ 1000000 := by have := cnts_le_len l; omega
  rw [← hn]
  have HA := Lib.hid hA
  have HI := Lib.hid ih
  have HN := Lib.hid hn
  have HS := Lib.hid hs
  have HBL := Lib.hid block_c
  clear hA ih hn hs
  go_enter Tryd.func15, Tryd.ntmps15
  go_wp2_with fail
  go_loopw [3, 4] (fun s3 s4 wr => ∃ k q : Nat, k ≤ n ∧ s3 = .int .i64 q ∧ s4 = .int .i64 k ∧ Hid (q = cnts (l.take k)) ∧ Hid (Bel w wr)) (fun s3 s4 _ => n - (intOf s4).toNat)
  case atStart => exact ⟨0, 0, Nat.zero_le _, rfl, rfl, Lib.hid (by simp [cnts_nil]), Lib.hid (Bel.refl _)⟩
  case round =>
    obtain ⟨k, q, hk, rfl, rfl, HQ, HBR⟩ := hrel
    by_cases hlt : k < n
    · have hxt := List.getElem?_eq_getElem (l := l) (i := k) (by have := HN.out; omega)
      generalize l[k]'(by have := HN.out; omega) = x at hxt
      have hst := cnts_step hxt
      have htk := cnts_take l (k + 1)
      have hce := cnt_eq x
      have hq5 : q + x.cnt ≤ 1000000 := by have := HQ.out; have := HS.out; omega
      obtain ⟨g, o, hAA, hg, ha⟩ := HA.out.cells hxt
      subst hAA
      have HXI := Lib.hid (HA.out.2 x (List.mem_of_getElem? hxt))
      have HMX := Lib.hid (fun W (hb : Bel w W) => HI.out x (List.mem_of_getElem? hxt) W (HXI.out.bel hb))
      have HST : Hid (q + x.cnt = cnts (l.take (k + 1))) := Lib.hid (by rw [hst, HQ.out])
      have HOA := Lib.hid ha
      obtain ⟨a0, a1, a2, a3, a4, a5, a6, a7⟩ := ha wr HBR.out
      clear hxt hst htk hg ha
      cases hb : blkI x.k with
      | false =>
        have h2 : ¬ x.k = 2 := by intro h; rw [h] at hb; cases hb
        have h2b : (x.k == 2) = false := by simpa using h2
        have hc1 : x.cnt = 1 := by rw [hce, hb, if_neg h2]; rfl
        have HCB := Lib.hid hb
        have HC1 := Lib.hid hc1
        have hq6 : q ≤ 1000000 := by omega
        clear hce hb hc1 hq5
        go_wp2_with (go_at_call 27; ((with_reducible refine (HBL.out _ _).mono ?_); rintro e w1 ⟨rfl, rfl⟩; rw [HCB.out]))
        go_roundw
        case rel => exact ⟨k + 1, q + 1, by omega, by go_num, by go_num, Lib.hid (by have := HST.out; rw [HC1.out] at this; exact this), HBR⟩
        case measure => simp [intOf]; omega
      | true =>
        have HCB := Lib.hid hb
        rw [if_pos hb] at hce
        have hb6 : cnts x.b ≤ 1000000 := by omega
        have HC1 := Lib.hid (fun W (hb : Bel w W) => (HMX.out W hb).1 hb6)
        by_cases h2 : x.k = 2
        · rw [if_pos h2] at hce
          have hl6 : cnts x.l ≤ 1000000 := by omega
          have HC2 := Lib.hid (fun W (hb : Bel w W) => (HMX.out W hb).2 hl6)
          have HSM : Hid (q + 1 + cnts x.b + cnts x.l = cnts (l.take (k + 1))) := Lib.hid (by have := HST.out; omega)
          have hq6 : q + 1 + cnts x.b + cnts x.l ≤ 1000000 := by omega
          rw [h2] at a0 HCB HOA
          generalize cnts x.b = cb at *
          generalize cnts x.l = cl at *
          clear hce hb hq5 hb6 hl6 h2
          go_wp2_with (first | (go_at_call 27; ((with_reducible refine (HBL.out _ _).mono ?_); rintro e w1 ⟨rfl, rfl⟩; rw [HCB.out])) | (go_at_call 15; ((with_reducible refine (HC1.out _ HBR.out).mono ?_); rintro e w1 ⟨rfl, hb⟩; have HB1 := Lib.hid (HBR.out.trans hb); clear a0 a1 a2 a3 a4 a5 a6 a7; obtain ⟨a0, a1, a2, a3, a4, a5, a6, a7⟩ := HOA.out w1 HB1.out; clear hb)) | (go_at_call 15; ((with_reducible refine (HC2.out _ HB1.out).mono ?_); rintro e w2 ⟨rfl, hb⟩; have HB2 := Lib.hid (HB1.out.trans hb); clear hb)))
          go_roundw
          case rel => exact ⟨k + 1, q + 1 + cb + cl, by omega, by go_num, by go_num, HSM, HB2⟩
          case measure => simp [intOf]; omega
        · rw [if_neg h2] at hce
          have HSM : Hid (q + 1 + cnts x.b = cnts (l.take (k + 1))) := Lib.hid (by have := HST.out; omega)
          have hq6 : q + 1 + cnts x.b ≤ 1000000 := by omega
          have h2b : (x.k == 2) = false := by simpa using h2
          generalize cnts x.b = cb at *
          clear hce hb hq5 hb6
          go_wp2_with (first | (go_at_call 27; ((with_reducible refine (HBL.out _ _).mono ?_); rintro e w1 ⟨rfl, rfl⟩; rw [HCB.out])) | (go_at_call 15; ((with_reducible refine (HC1.out _ HBR.out).mono ?_); rintro e w1 ⟨rfl, hb⟩; have HB1 := Lib.hid (HBR.out.trans hb); clear a0 a1 a2 a3 a4 a5 a6 a7; obtain ⟨a0, a1, a2, a3, a4, a5, a6, a7⟩ := HOA.out w1 HB1.out; clear hb)))
          go_roundw
          case rel => exact ⟨k + 1, q + 1 + cb, by omega, by go_num, by go_num, HSM, HB1⟩
          case measure => simp [intOf]; omega
    · obtain rfl : k = n := by omega
      have HE : Hid (q = cnts l) := Lib.hid (by rw [HQ.out, HN.out, List.take_length])
      go_wp2_with fail
      go_ret
      exact ⟨by rw [← HE.out]; rfl, HBR.out⟩
theorem count_all (x : NT) : CnM x := by
  refine NT.ind (M := CnM) (fun t h1 h2 => ?_) x
  intro w ht
  exact ⟨fun h => count_row t.b h1 _ _ w ht.body h, fun h => count_row t.l h2 _ _ w ht.els h⟩
theorem rcount_c {l : List NT} {A : Option Addr} {c : Nat} {w : World} (hA : Row w (Lt w) A c l) (hs : cnts l ≤ 1000000) :
    Calls Tryd.prog 15 #[.slice A l.length c] w fun e w' => e = .returned (.int .i64 (cnts l)) ∧ Bel w w' := count_row l (fun x _ => count_all x) A c w hA hs
end Go.Proofs.YtgbppdgpengcoaaDoor
