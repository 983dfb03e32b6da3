/-
  Contracts: the program's isBlock and inside.
  Contract: the program's Count.
  Contract: the program's Nest.
-/
import Derived.Test.YtgbppdgpengcoaaDoorNm
import Derived.Test.YtgbppdgpengcoaaDoorCt12
namespace Go.Proofs.YtgbppdgpengcoaaDoor
open Go.RowKit Go.BigFrame NT
set_option linter.unusedVariables false
set_option linter.unusedSimpArgs false

theorem isBlock_c (k : Int) (w : World) : Calls Tryd.prog 28 #[.int .i64 k] w fun e w' => e = .returned (.bool (blkI k)) ∧ w' = w := by
  by_cases h2 : k = 2
  · subst h2
    go_enter Tryd.func28, Tryd.ntmps28
    go_wp2_with fail
    go_ret
    exact ⟨rfl, rfl⟩
  by_cases h3 : k = 3
  · subst h3
    go_enter Tryd.func28, Tryd.ntmps28
    go_wp2_with fail
    go_ret
    exact ⟨rfl, rfl⟩
  by_cases h6 : k = 6
  · subst h6
    go_enter Tryd.func28, Tryd.ntmps28
    go_wp2_with fail
    go_ret
    exact ⟨rfl, rfl⟩
  have e2 : (k == 2) = false := by simpa using h2
  have e3 : (k == 3) = false := by simpa using h3
  have e6 : (k == 6) = false := by simpa using h6
  have hb : blkI k = false := by unfold blkI; rw [e2, e3, e6]; rfl
  have HB := Lib.hid hb
  clear hb
  go_enter Tryd.func28, Tryd.ntmps28
  go_wp2_with fail
  go_ret
  exact ⟨by rw [HB.out]; rfl, rfl⟩


/-! ### inside -/
abbrev nval (k a : Int) (s p : ByteArray) (h e : Bool) (A : Option Addr) (n c : Nat) (B : Option Addr) (m d : Nat) : Value := .agg #[.int .i64 k, .int .i64 a, .string s, .string p, .bool h, .bool e, .slice A n c, .slice B m d]
abbrev InsC (v : Value) (x y : Value) (w : World) : Prop := Calls Tryd.prog 26 #[v] w fun en w' => en = .returned (.tuple #[x, y]) ∧ Bel w w'
theorem inside_if (k a : Int) (s p : ByteArray) (h e : Bool) (A : Option Addr) (n c : Nat) (B : Option Addr) (m d : Nat) (w : World) (hk : k = 2) : InsC (nval k a s p h e A n c B m d) (.slice A n c) (.slice B m d) w := by
  subst hk
  have HBL := Lib.hid (isBlock_c 2)
  go_enter Tryd.func26, Tryd.ntmps26
  go_wp2_with (go_at_call 28; ((with_reducible refine (HBL.out _).mono ?_); rintro e w1 ⟨rfl, rfl⟩; rw [show blkI 2 = true from rfl]))
  go_ret2
  exact ⟨rfl, Bel.alloc _ _⟩
theorem inside_blk (k a : Int) (s p : ByteArray) (h e : Bool) (A : Option Addr) (n c : Nat) (B : Option Addr) (m d : Nat) (w : World) (hb : blkI k = true) (hk : ¬ k = 2) : InsC (nval k a s p h e A n c B m d) (.slice A n c) (.slice none 0 0) w := by
  have HBL := Lib.hid (isBlock_c k)
  have HCB := Lib.hid hb
  have h2 : (k == 2) = false := by simpa using hk
  clear hb
  go_enter Tryd.func26, Tryd.ntmps26
  go_wp2_with (go_at_call 28; ((with_reducible refine (HBL.out _).mono ?_); rintro e w1 ⟨rfl, rfl⟩; rw [HCB.out]))
  go_ret2
  exact ⟨rfl, Bel.alloc _ _⟩
theorem inside_leaf (k a : Int) (s p : ByteArray) (h e : Bool) (A : Option Addr) (n c : Nat) (B : Option Addr) (m d : Nat) (w : World) (hb : blkI k = false) : InsC (nval k a s p h e A n c B m d) (.slice none 0 0) (.slice none 0 0) w := by
  have HBL := Lib.hid (isBlock_c k)
  have HCB := Lib.hid hb
  have hk : ¬ k = 2 := by intro h; rw [h] at hb; cases hb
  have h2 : (k == 2) = false := by simpa using hk
  clear hb
  go_enter Tryd.func26, Tryd.ntmps26
  go_wp2_with (go_at_call 28; ((with_reducible refine (HBL.out _).mono ?_); rintro e w1 ⟨rfl, rfl⟩; rw [HCB.out]))
  go_ret2
  exact ⟨rfl, Bel.alloc _ _⟩
end Go.Proofs.YtgbppdgpengcoaaDoor

namespace Go.Proofs.YtgbppdgpengcoaaDoor
open Go.RowKit Go.BigFrame NT
set_option linter.unusedVariables false
set_option linter.unusedSimpArgs false

abbrev PcC (w : World) (A : Option Addr) (n c : Nat) (r : Nat) : Prop := Calls Tryd.prog 14 #[.slice A n c] w fun e w' => e = .returned (.int .i64 r) ∧ Bel w w'
def PcM (x : NT) : Prop := ∀ (w : World), x.In w (Lt w) → (cnts x.b ≤ 1000000 → PcC w x.A x.b.length x.c (cnts x.b)) ∧ (cnts x.l ≤ 1000000 → PcC w x.B x.l.length x.d (cnts x.l))
theorem pcount_nil (w : World) : PcC w none 0 0 0 := by
  go_enter Tryd.func14, Tryd.ntmps14
  go_wp2_with fail
  go_loopw [3, 12] (fun s3 s12 wr => s3 = .int .i64 0 ∧ s12 = .int .i64 0 ∧ Hid (Bel w wr)) (fun s3 s12 _ => 0)
  case atStart => exact ⟨rfl, rfl, Lib.hid (Bel.refl _)⟩
  case round =>
    obtain ⟨rfl, rfl, HBR⟩ := hrel
    go_wp2_with fail
    go_ret
    exact ⟨rfl, HBR.out⟩
set_option maxRecDepth 100000 in
set_option maxHeartbeats 3200000 in
theorem pcount_row (l : List NT) (ih : ∀ x ∈ l, PcM x) (A : Option Addr) (c : Nat) (w : World) (hA : Row w (Lt w) A c l) (hs : cnts l ≤ 1000000) : PcC w A l.length c (cnts l) := by
  obtain ⟨n, hn⟩ : ∃ n, n = l.length := ⟨_, rfl⟩
  have hn5 : n ≤ 1000000 := by have := cnts_le_len l; omega
  rw [← hn]
  have HA := Lib.hid hA
  have HI := Lib.hid ih
  have HN := Lib.hid hn
  have HS := Lib.hid hs
  have HNL := Lib.hid (fun W => pcount_nil W)
  clear hA ih hn hs
  go_enter Tryd.func14, Tryd.ntmps14
  go_wp2_with fail
  go_loopw [3, 12] (fun s3 s12 wr => ∃ k q : Nat, k ≤ n ∧ s3 = .int .i64 q ∧ s12 = .int .i64 k ∧ q ≤ 3000000 ∧ Hid (q + k = n + cnts (l.take k)) ∧ Hid (Bel w wr)) (fun s3 s12 _ => n - (intOf s12).toNat)
  case atStart => exact ⟨0, n, Nat.zero_le _, rfl, rfl, by omega, Lib.hid (by simp [cnts_nil]), Lib.hid (Bel.refl _)⟩
  case round =>
    obtain ⟨k, q, hk, rfl, rfl, hq3, HQ, HBR⟩ := hrel
    by_cases hlt : k < n
    · have hxt := List.getElem?_eq_getElem (l := l) (i := k) (by have := HN.out; omega)
      generalize l[k]'(by have := HN.out; omega) = x at hxt
      have hst := cnts_step hxt
      have htk := cnts_take l (k + 1)
      have hce := cnt_eq x
      have hq5 : q + x.cnt ≤ 2000001 := by have := HQ.out; have := HS.out; omega
      have hx5 : x.cnt ≤ 1000000 := by have := HQ.out; have := HS.out; omega
      obtain ⟨g, o, hAA, hg, ha⟩ := HA.out.cells hxt
      subst hAA
      have HXI := Lib.hid (HA.out.2 x (List.mem_of_getElem? hxt))
      have HMX := Lib.hid (fun W (hb : Bel w W) => HI.out x (List.mem_of_getElem? hxt) W (HXI.out.bel hb))
      have HST : Hid (q + x.cnt + k = n + cnts (l.take (k + 1))) := Lib.hid (by rw [hst]; have := HQ.out; omega)
      obtain ⟨a0, a1, a2, a3, a4, a5, a6, a7⟩ := ha wr HBR.out
      clear hxt hst htk hg ha
      cases hb : blkI x.k with
      | false =>
        have h2 : ¬ x.k = 2 := by intro h; rw [h] at hb; cases hb
        have hc1 : x.cnt = 1 := by rw [hce, hb, if_neg h2]; rfl
        have HCB := Lib.hid hb
        have HC1 := Lib.hid hc1
        have HSM : Hid (q + (k + 1) = n + cnts (l.take (k + 1))) := Lib.hid (by have := HST.out; omega)
        have hq6 : q ≤ 2000001 := by omega
        clear hce hb hc1 hq5 h2
        go_wp2_with (first | (go_at_call 26; ((with_reducible refine (inside_leaf _ _ _ _ _ _ _ _ _ _ _ _ _ HCB.out).mono ?_); rintro e w1 ⟨rfl, hb⟩; have HB1 := Lib.hid ((HBR.out.trans (Bel.alloc _ _)).trans hb); clear hb a0 a1 a2 a3 a4 a5 a6 a7)) | (go_at_call 14; ((with_reducible refine (HNL.out w1).mono ?_); rintro e w2 ⟨rfl, hb⟩; have HB2 := Lib.hid (HB1.out.trans hb); clear hb)) | (go_at_call 14; ((with_reducible refine (HNL.out w2).mono ?_); rintro e w3 ⟨rfl, hb⟩; have HB3 := Lib.hid (HB2.out.trans hb); clear hb)))
        go_roundw
        case rel => exact ⟨k + 1, q, by omega, by go_num, by go_num, by omega, HSM, HB3⟩
        case measure => simp [intOf]; omega
      | true =>
        have HCB := Lib.hid hb
        rw [if_pos hb] at hce
        have hb6 : cnts x.b ≤ 1000000 := by omega
        have HC1 := Lib.hid (fun W (hb : Bel w W) => (HMX.out W hb).1 hb6)
        by_cases h2 : x.k = 2
        · rw [if_pos h2] at hce
          have hl6 : cnts x.l ≤ 1000000 := by omega
          have HC2 := Lib.hid (fun W (hb : Bel w W) => (HMX.out W hb).2 hl6)
          have HSM : Hid (q + (cnts x.b + cnts x.l) + (k + 1) = n + cnts (l.take (k + 1))) := Lib.hid (by have := HST.out; omega)
          have hq6 : q + (cnts x.b + cnts x.l) ≤ 2000001 := by omega
          have H2 := Lib.hid h2
          generalize cnts x.b = cb at *
          generalize cnts x.l = cl at *
          clear hce hb hq5 hx5 h2
          go_wp2_with (first | (go_at_call 26; ((with_reducible refine (inside_if _ _ _ _ _ _ _ _ _ _ _ _ _ H2.out).mono ?_); rintro e w1 ⟨rfl, hb⟩; have HB1 := Lib.hid ((HBR.out.trans (Bel.alloc _ _)).trans hb); clear hb a0 a1 a2 a3 a4 a5 a6 a7)) | (go_at_call 14; ((with_reducible refine (HC1.out w1 HB1.out).mono ?_); rintro e w2 ⟨rfl, hb⟩; have HB2 := Lib.hid (HB1.out.trans hb); clear hb)) | (go_at_call 14; ((with_reducible refine (HC2.out w2 HB2.out).mono ?_); rintro e w3 ⟨rfl, hb⟩; have HB3 := Lib.hid (HB2.out.trans hb); clear hb)))
          go_roundw
          case rel => exact ⟨k + 1, q + (cb + cl), by omega, by go_num, by go_num, by omega, HSM, HB3⟩
          case measure => simp [intOf]; omega
        · rw [if_neg h2] at hce
          have HSM : Hid (q + cnts x.b + (k + 1) = n + cnts (l.take (k + 1))) := Lib.hid (by have := HST.out; omega)
          have hq6 : q + cnts x.b ≤ 2000001 := by omega
          have H2 := Lib.hid h2
          generalize cnts x.b = cb at *
          clear hce hb hq5 hx5 h2
          go_wp2_with (first | (go_at_call 26; ((with_reducible refine (inside_blk _ _ _ _ _ _ _ _ _ _ _ _ _ HCB.out H2.out).mono ?_); rintro e w1 ⟨rfl, hb⟩; have HB1 := Lib.hid ((HBR.out.trans (Bel.alloc _ _)).trans hb); clear hb a0 a1 a2 a3 a4 a5 a6 a7)) | (go_at_call 14; ((with_reducible refine (HC1.out w1 HB1.out).mono ?_); rintro e w2 ⟨rfl, hb⟩; have HB2 := Lib.hid (HB1.out.trans hb); clear hb)) | (go_at_call 14; ((with_reducible refine (HNL.out w2).mono ?_); rintro e w3 ⟨rfl, hb⟩; have HB3 := Lib.hid (HB2.out.trans hb); clear hb)))
          go_roundw
          case rel => exact ⟨k + 1, q + cb, by omega, by go_num, by go_num, by omega, HSM, HB3⟩
          case measure => simp [intOf]; omega
    · obtain rfl : k = n := by omega
      have HE : Hid (q = cnts l) := Lib.hid (by have := HQ.out; rw [HN.out, List.take_length] at this; omega)
      go_wp2_with fail
      go_ret
      exact ⟨by rw [← HE.out]; rfl, HBR.out⟩
theorem pcount_all (x : NT) : PcM x := by
  refine NT.ind (M := PcM) (fun t h1 h2 => ?_) x
  intro w ht
  exact ⟨fun h => pcount_row t.b h1 _ _ w ht.body h, fun h => pcount_row t.l h2 _ _ w ht.els h⟩
theorem count_c {l : List NT} {A : Option Addr} {c : Nat} {w : World} (hA : Row w (Lt w) A c l) (hs : cnts l ≤ 1000000) :
    Calls Tryd.prog 14 #[.slice A l.length c] w fun e w' => e = .returned (.int .i64 (cnts l)) ∧ Bel w w' := pcount_row l (fun x _ => pcount_all x) A c w hA hs
end Go.Proofs.YtgbppdgpengcoaaDoor

namespace Go.Proofs.YtgbppdgpengcoaaDoor
open Go.RowKit Go.BigFrame NT
set_option linter.unusedVariables false
set_option linter.unusedSimpArgs false

abbrev PnC (w : World) (A : Option Addr) (n c : Nat) (r : Nat) : Prop := Calls Tryd.prog 16 #[.slice A n c] w fun e w' => e = .returned (.int .i64 r) ∧ Bel w w'
def PnM (x : NT) : Prop := ∀ (w : World), x.In w (Lt w) → (nsts x.b ≤ 1000000 → PnC w x.A x.b.length x.c (nsts x.b)) ∧ (nsts x.l ≤ 1000000 → PnC w x.B x.l.length x.d (nsts x.l))
theorem pnest_nil (w : World) : PnC w none 0 0 0 := by
  go_enter Tryd.func16, Tryd.ntmps16
  go_wp2_with fail
  go_loopw [3, 10] (fun s3 s10 wr => s3 = .int .i64 0 ∧ s10 = .int .i64 0 ∧ Hid (Bel w wr)) (fun s3 s10 _ => 0)
  case atStart => exact ⟨rfl, rfl, Lib.hid (Bel.refl _)⟩
  case round =>
    obtain ⟨rfl, rfl, HBR⟩ := hrel
    go_wp2_with fail
    go_ret
    exact ⟨rfl, HBR.out⟩
theorem max3 (q a b : Nat) : (if (if (q : Int) < 1 + (a : Int) then 1 + (a : Int) else (q : Int)) < 1 + (b : Int) then 1 + (b : Int) else if (q : Int) < 1 + (a : Int) then 1 + (a : Int) else (q : Int)) = ((max q (max (1 + a) (1 + b)) : Nat) : Int) := by
  split <;> split <;> omega
set_option maxRecDepth 100000 in
set_option maxHeartbeats 3200000 in
theorem pnest_row (l : List NT) (ih : ∀ x ∈ l, PnM x) (A : Option Addr) (c : Nat) (w : World) (hA : Row w (Lt w) A c l) (hs : nsts l ≤ 1000000) : PnC w A l.length c (nsts l) := by
  obtain ⟨n, hn⟩ : ∃ n, n = l.length := ⟨_, rfl⟩
  have hn5 := hA.len
  rw [← hn] at hn5 ⊢
  have HA := Lib.hid hA
  have HI := Lib.hid ih
  have HN := Lib.hid hn
  have HS := Lib.hid hs
  have HNL := Lib.hid (fun W => pnest_nil W)
  have HBL := Lib.hid isBlock_c
  clear hA ih hn hs
  go_enter Tryd.func16, Tryd.ntmps16
  go_wp2_with fail
  go_loopw [3, 10] (fun s3 s10 wr => ∃ k q : Nat, k ≤ n ∧ q ≤ 1000000 ∧ s3 = .int .i64 q ∧ s10 = .int .i64 k ∧ Hid (q = nsts (l.take k)) ∧ Hid (Bel w wr)) (fun s3 s10 _ => n - (intOf s10).toNat)
  case atStart => exact ⟨0, 0, Nat.zero_le _, by omega, rfl, rfl, Lib.hid (by simp [nsts_nil]), Lib.hid (Bel.refl _)⟩
  case round =>
    obtain ⟨k, q, hk, hq1, rfl, rfl, HQ, HBR⟩ := hrel
    by_cases hlt : k < n
    · have hxt := List.getElem?_eq_getElem (l := l) (i := k) (by have := HN.out; omega)
      generalize l[k]'(by have := HN.out; omega) = x at hxt
      have hst := nsts_step hxt
      have htk := nsts_take l (k + 1)
      have hce := nst_eq x
      have hq5 : max q x.nst ≤ 1000000 := by have := HQ.out; have := HS.out; omega
      obtain ⟨g, o, hAA, hg, ha⟩ := HA.out.cells hxt
      subst hAA
      have HXI := Lib.hid (HA.out.2 x (List.mem_of_getElem? hxt))
      have HMX := Lib.hid (fun W (hb : Bel w W) => HI.out x (List.mem_of_getElem? hxt) W (HXI.out.bel hb))
      have HST : Hid (max q x.nst = nsts (l.take (k + 1))) := Lib.hid (by rw [hst, HQ.out])
      obtain ⟨a0, a1, a2, a3, a4, a5, a6, a7⟩ := ha wr HBR.out
      clear hxt hst htk hg ha
      cases hb : blkI x.k with
      | false =>
        have hc1 : x.nst = 0 := by rw [hce, hb]; rfl
        have HCB := Lib.hid hb
        have HSM : Hid (q = nsts (l.take (k + 1))) := Lib.hid (by have := HST.out; omega)
        clear hce hb hc1 hq5
        go_wp2_with (go_at_call 28; ((with_reducible refine (HBL.out _ _).mono ?_); rintro e w0 ⟨rfl, hw⟩; obtain rfl := hw.symm; rw [HCB.out]))
        go_roundw
        case rel => exact ⟨k + 1, q, by omega, hq1, by go_num, by go_num, HSM, Lib.hid (HBR.out.trans (Bel.alloc _ _))⟩
        case measure => simp [intOf]; omega
      | true =>
        have HCB := Lib.hid hb
        rw [if_pos hb] at hce
        have hb6 : nsts x.b ≤ 1000000 := by omega
        have HC1 := Lib.hid (fun W (hb : Bel w W) => (HMX.out W hb).1 hb6)
        by_cases h2 : x.k = 2
        · rw [if_pos h2] at hce
          have hl6 : nsts x.l ≤ 1000000 := by omega
          have HC2 := Lib.hid (fun W (hb : Bel w W) => (HMX.out W hb).2 hl6)
          have HSM : Hid (max q (max (1 + nsts x.b) (1 + nsts x.l)) = nsts (l.take (k + 1))) := Lib.hid (by have := HST.out; omega)
          have hK6 : max q (max (1 + nsts x.b) (1 + nsts x.l)) ≤ 1000000 := by omega
          have H2 := Lib.hid h2
          generalize nsts x.b = cb at *
          generalize nsts x.l = cl at *
          clear hce hb hq5 h2
          go_wp2_with (first | (go_at_call 28; ((with_reducible refine (HBL.out _ _).mono ?_); rintro e w0 ⟨rfl, hw⟩; obtain rfl := hw.symm; rw [HCB.out])) | (go_at_call 26; ((with_reducible refine (inside_if _ _ _ _ _ _ _ _ _ _ _ _ _ H2.out).mono ?_); rintro e w1 ⟨rfl, hb⟩; have HB1 := Lib.hid ((HBR.out.trans (Bel.alloc _ _)).trans hb); clear hb a0 a1 a2 a3 a4 a5 a6 a7)) | (go_at_call 16; ((with_reducible refine (HC1.out w1 HB1.out).mono ?_); rintro e w2 ⟨rfl, hb⟩; have HB2 := Lib.hid (HB1.out.trans hb); clear hb)) | (go_at_call 16; ((with_reducible refine (HC2.out w2 HB2.out).mono ?_); rintro e w3 ⟨rfl, hb⟩; have HB3 := Lib.hid (HB2.out.trans hb); clear hb)))
          have hm := max3 q cb cl
          go_roundw
          case rel => exact ⟨k + 1, max q (max (1 + cb) (1 + cl)), by omega, hK6, congrArg _ hm, by go_num, HSM, HB3⟩
          case measure => simp [intOf]; omega
        · rw [if_neg h2] at hce
          have HSM : Hid (max q (max (1 + nsts x.b) (1 + 0)) = nsts (l.take (k + 1))) := Lib.hid (by have := HST.out; omega)
          have hK6 : max q (max (1 + nsts x.b) (1 + 0)) ≤ 1000000 := by omega
          have H2 := Lib.hid h2
          generalize nsts x.b = cb at *
          clear hce hb hq5 h2
          go_wp2_with (first | (go_at_call 28; ((with_reducible refine (HBL.out _ _).mono ?_); rintro e w0 ⟨rfl, hw⟩; obtain rfl := hw.symm; rw [HCB.out])) | (go_at_call 26; ((with_reducible refine (inside_blk _ _ _ _ _ _ _ _ _ _ _ _ _ HCB.out H2.out).mono ?_); rintro e w1 ⟨rfl, hb⟩; have HB1 := Lib.hid ((HBR.out.trans (Bel.alloc _ _)).trans hb); clear hb a0 a1 a2 a3 a4 a5 a6 a7)) | (go_at_call 16; ((with_reducible refine (HC1.out w1 HB1.out).mono ?_); rintro e w2 ⟨rfl, hb⟩; have HB2 := Lib.hid (HB1.out.trans hb); clear hb)) | (go_at_call 16; ((with_reducible refine (HNL.out w2).mono ?_); rintro e w3 ⟨rfl, hb⟩; have HB3 := Lib.hid (HB2.out.trans hb); clear hb)))
          have hm : (if (q : Int) < 1 + (cb : Int) then 1 + (cb : Int) else (q : Int)) = ((max q (max (1 + cb) (1 + 0)) : Nat) : Int) := by split <;> omega
          go_roundw
          case rel => exact ⟨k + 1, max q (max (1 + cb) (1 + 0)), by omega, hK6, congrArg _ hm, by go_num, HSM, HB3⟩
          case measure => simp [intOf]; omega
    · obtain rfl : k = n := by omega
      have HE : Hid (q = nsts l) := Lib.hid (by rw [HQ.out, HN.out, List.take_length])
      go_wp2_with fail
      go_ret
      exact ⟨by rw [← HE.out]; rfl, HBR.out⟩
theorem pnest_all (x : NT) : PnM x := by
  refine NT.ind (M := PnM) (fun t h1 h2 => ?_) x
  intro w ht
  exact ⟨fun h => pnest_row t.b h1 _ _ w ht.body h, fun h => pnest_row t.l h2 _ _ w ht.els h⟩
theorem nest_c {l : List NT} {A : Option Addr} {c : Nat} {w : World} (hA : Row w (Lt w) A c l) (hs : nsts l ≤ 1000000) :
    Calls Tryd.prog 16 #[.slice A l.length c] w fun e w' => e = .returned (.int .i64 (nsts l)) ∧ Bel w w' := pnest_row l (fun x _ => pnest_all x) A c w hA hs
end Go.Proofs.YtgbppdgpengcoaaDoor
