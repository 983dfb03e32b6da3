/-
  Contract: the reference's canonical source of nodes.
-/
import Derived.Test.YthbcjljkpnkakaaFn11
import Derived.Test.YthbcjljkpnkakaaEq13
import Derived.Test.YthbcjljkpnkakaaPz13
namespace Go.Proofs.Ythbcjljkpnkakaa
open Go.RowKit Go.BigFrame NT
set_option linter.unusedVariables false
set_option linter.unusedSimpArgs false

theorem refFormat_z (u : Tok) (h0 : u.a = 0) (hg : Good u) (hs : u.s.length ≤ 70000) (hp : u.p.length ≤ 70000) (w : World) :
    Calls Try.prog 22 #[.agg #[.int .i64 u.k, .int .i64 0, .string (ofL u.s), .string (ofL u.p), .bool u.h]] w fun e w' => e = .returned (.string (ofL (fmt u))) ∧ Bel w w' := by
  have h := refFormat_c u hg hs hp w
  rw [h0] at h
  exact h
abbrev RfC (w : World) (A : Option Addr) (n c : Nat) (r : ByteArray) : Prop := Calls Try.prog 10 #[.slice A n c] w fun e w' => e = .returned (.string r) ∧ Bel w w'
def RfM (x : NT) : Prop := ∀ (w : World), x.In w (Lt w) → ((∀ y, y ∈ x.b → Ng y) → (fmtNs x.b).length ≤ 100000 → RfC w x.A x.b.length x.c (ofL (fmtNs x.b))) ∧ ((∀ y, y ∈ x.l → Ng y) → (fmtNs x.l).length ≤ 100000 → RfC w x.B x.l.length x.d (ofL (fmtNs x.l)))
theorem fmtNs_step {l : List NT} {i : Nat} {x : NT} (h : l[i]? = some x) : fmtNs (l.take (i + 1)) = fmtNs (l.take i) ++ fmtN x := by rw [NT.take_step h, fmtNs_append, fmtNs_cons, fmtNs_nil, List.append_nil]
theorem fmtNs_take (l : List NT) (i : Nat) : (fmtNs (l.take i)).length ≤ (fmtNs l).length := by
  conv => rhs; rw [← List.take_append_drop i l, fmtNs_append, List.length_append]
  omega
set_option maxRecDepth 100000 in
set_option maxHeartbeats 3200000 in
theorem rf_row (l : List NT) (ih : ∀ x ∈ l, RfM x) (A : Option Addr) (c : Nat) (w : World) (hA : Row w (Lt w) A c l) (hg : ∀ x, x ∈ l → Ng x) (hs : (fmtNs l).length ≤ 100000) : RfC w A l.length c (ofL (fmtNs l)) := by
  obtain ⟨n, hn⟩ : ∃ n, n = l.length := ⟨_, rfl⟩
  have hn5 := hA.len
  rw [← hn] at hn5 ⊢
  have HA := Lib.hid hA
  have HI := Lib.hid ih
  have HN := Lib.hid hn
  have HS := Lib.hid hs
  have HG := Lib.hid hg
  clear hA ih hn hs hg
  go_enter Try.func10, Try.ntmps10
  go_wp2_with fail
  go_loopw [3, 4] (fun s3 s4 wr => ∃ k : Nat, k ≤ n ∧ s3 = .string (ofL (fmtNs (l.take k))) ∧ s4 = .int .i64 k ∧ Hid (Bel w wr)) (fun s3 s4 _ => n - (intOf s4).toNat)
  case atStart => exact ⟨0, Nat.zero_le _, by simp [fmtNs_nil]; rfl, rfl, Lib.hid (Bel.refl _)⟩
  case round =>
    obtain ⟨k, hk, rfl, rfl, HBR⟩ := hrel
    by_cases hlt : k < n
    · have hxt := List.getElem?_eq_getElem (l := l) (i := k) (by have := HN.out; omega)
      generalize l[k]'(by have := HN.out; omega) = x at hxt
      have hst := fmtNs_step hxt
      have htk := fmtNs_take l (k + 1)
      obtain ⟨g, o, hAA, hgg, ha⟩ := HA.out.cells hxt
      subst hAA
      have HXI := Lib.hid (HA.out.2 x (List.mem_of_getElem? hxt))
      have HMX := Lib.hid (fun W (hb : Bel w W) => HI.out x (List.mem_of_getElem? hxt) W (HXI.out.bel hb))
      have hxg := HG.out x (List.mem_of_getElem? hxt)
      obtain ⟨u, e1, e2, e3, e4, e5, e6, e7, e8⟩ := hxg.tok
      have hfx := fmtN_tok e1 e2 e3 e4
      have HRF := Lib.hid (fun W => refFormat_z u e8 e5 e6 e7 W)
      obtain ⟨a0, a1, a2, a3, a4, a5, a6, a7⟩ := ha wr HBR.out
      rw [e1] at a0
      rw [e2] at a2
      rw [e3] at a3
      rw [e4] at a4
      -- TAIL
      have HBX := Lib.hid (Blk.new wr 33 [.int .i64 u.k, .int .i64 x.a, .string (ofL u.s), .string (ofL u.p), .bool u.h, .bool x.e, .slice x.A x.b.length x.c, .slice x.B x.l.length x.d])
      obtain ⟨T, hT⟩ : ∃ T, T = ofL (fmtNs (l.take k)) := ⟨_, rfl⟩
      obtain ⟨F, hF⟩ : ∃ F, F = ofL (fmt u) := ⟨_, rfl⟩
      have hTs : T.size ≤ 100000 := by rw [hT, ← toL_len, toL_ofL]; have := fmtNs_take l k; have := HS.out; omega
      have hxl := fmtNs_len_le (List.mem_of_getElem? hxt)
      have hFs : F.size ≤ 100000 := by rw [hF, ← toL_len, toL_ofL]; have h := congrArg List.length hfx; rw [List.length_append] at h; have := HS.out; omega
      have HFU := Lib.hid hF.symm
      rw [← hT]
      cases hb : blk u.k with
      | false =>
        have k2 : ((u.k : Int) != 2) = true := bne_iff_ne.2 (fun h => by rw [show u.k = 2 by omega] at hb; cases hb)
        have k3 : ((u.k : Int) != 3) = true := bne_iff_ne.2 (fun h => by rw [show u.k = 3 by omega] at hb; cases hb)
        have k6 : ((u.k : Int) != 6) = true := bne_iff_ne.2 (fun h => by rw [show u.k = 6 by omega] at hb; cases hb)
        have HSM : Hid (T ++ F = ofL (fmtNs (l.take (k + 1)))) := Lib.hid (by
          apply toL_inj
          rw [toL_app, hT, hF, toL_ofL, toL_ofL, toL_ofL, hst, hfx, hb]
          simp)
        clear hxt hst htk hfx hxg e1 e2 e3 e4 e5 e6 e7 e8 hb hT hF hxl
        go_wp2_with (go_at_call 22; ((with_reducible refine (HRF.out _).mono ?_); rintro e w1 ⟨rfl, hb⟩; rw [HFU.out]; have HB1 := Lib.hid ((HBR.out.trans (Bel.alloc _ _)).trans hb); have HX1 := Lib.hid (HBX.out.bel hb); obtain ⟨x0, x1, x2, x3, x4, x5, x6, x7⟩ := cells8 HX1.out; clear hb))
        go_roundw
        case rel => exact ⟨k + 1, by omega, by rw [HSM.out], by go_num, HB1⟩
        case measure => simp [intOf]; omega
      | true =>
        have hbi : blkI x.k = true := by rw [e1, blkI_nat]; exact hb
        obtain ⟨Bs, hBs⟩ : ∃ B, B = ofL (fmtNs x.b) := ⟨_, rfl⟩
        have hle := fmtN_b_le x hbi
        have hBz : Bs.size ≤ 100000 := by rw [hBs, ← toL_len, toL_ofL]; have := HS.out; omega
        have HFB := Lib.hid hBs.symm
        have HMB := Lib.hid (fun W (h : Bel w W) => (HMX.out W h).1 hxg.body (by have := HS.out; omega))
        cases he : x.e with
        | false =>
          rw [he] at a5 HBX
          have HSM : Hid (T ++ F ++ Bs ++ ⟨#[123, 123, 101, 110, 100, 125, 125]⟩ = ofL (fmtNs (l.take (k + 1)))) := Lib.hid (by
            apply toL_inj
            rw [toL_app, toL_app, toL_app, hT, hF, hBs, toL_ofL, toL_ofL, toL_ofL, toL_ofL, hst, hfx, hb, he, show toL ⟨#[123, 123, 101, 110, 100, 125, 125]⟩ = fmt edT from rfl]
            simp)
          have hk : u.k = 2 ∨ u.k = 3 ∨ u.k = 6 := by
            unfold blk at hb
            simp only [Bool.or_eq_true, beq_iff_eq] at hb
            omega
          clear hxt hst htk hfx hxg e1 e2 e3 e4 e5 e6 e7 e8 hb hT hF hBs hxl hle hbi he
          rcases hk with hk | hk | hk
          · have k2 : ((u.k : Int) != 2) = false := by rw [hk]; rfl
            clear hk
            go_wp2_with (first | (go_at_call 22; ((with_reducible refine (HRF.out _).mono ?_); rintro e w1 ⟨rfl, hb⟩; rw [HFU.out]; have HB1 := Lib.hid ((HBR.out.trans (Bel.alloc _ _)).trans hb); have HX1 := Lib.hid (HBX.out.bel hb); obtain ⟨x0, x1, x2, x3, x4, x5, x6, x7⟩ := cells8 HX1.out; clear hb)) | (go_at_call 10; ((with_reducible refine (HMB.out _ HB1.out).mono ?_); rintro e w2 ⟨rfl, hb⟩; rw [HFB.out]; have HB2 := Lib.hid (HB1.out.trans hb); clear x0 x1 x2 x3 x4 x5 x6 x7; obtain ⟨x0, x1, x2, x3, x4, x5, x6, x7⟩ := cells8 (HX1.out.bel hb); clear hb)))
            go_roundw
            case rel => exact ⟨k + 1, by omega, by rw [HSM.out], by go_num, HB2⟩
            case measure => simp [intOf]; omega
          · have k2 : ((u.k : Int) != 2) = true := by rw [hk]; rfl
            have k3 : ((u.k : Int) != 3) = false := by rw [hk]; rfl
            clear hk
            go_wp2_with (first | (go_at_call 22; ((with_reducible refine (HRF.out _).mono ?_); rintro e w1 ⟨rfl, hb⟩; rw [HFU.out]; have HB1 := Lib.hid ((HBR.out.trans (Bel.alloc _ _)).trans hb); have HX1 := Lib.hid (HBX.out.bel hb); obtain ⟨x0, x1, x2, x3, x4, x5, x6, x7⟩ := cells8 HX1.out; clear hb)) | (go_at_call 10; ((with_reducible refine (HMB.out _ HB1.out).mono ?_); rintro e w2 ⟨rfl, hb⟩; rw [HFB.out]; have HB2 := Lib.hid (HB1.out.trans hb); clear x0 x1 x2 x3 x4 x5 x6 x7; obtain ⟨x0, x1, x2, x3, x4, x5, x6, x7⟩ := cells8 (HX1.out.bel hb); clear hb)))
            go_roundw
            case rel => exact ⟨k + 1, by omega, by rw [HSM.out], by go_num, HB2⟩
            case measure => simp [intOf]; omega
          · have k2 : ((u.k : Int) != 2) = true := by rw [hk]; rfl
            have k3 : ((u.k : Int) != 3) = true := by rw [hk]; rfl
            have k6 : ((u.k : Int) != 6) = false := by rw [hk]; rfl
            clear hk
            go_wp2_with (first | (go_at_call 22; ((with_reducible refine (HRF.out _).mono ?_); rintro e w1 ⟨rfl, hb⟩; rw [HFU.out]; have HB1 := Lib.hid ((HBR.out.trans (Bel.alloc _ _)).trans hb); have HX1 := Lib.hid (HBX.out.bel hb); obtain ⟨x0, x1, x2, x3, x4, x5, x6, x7⟩ := cells8 HX1.out; clear hb)) | (go_at_call 10; ((with_reducible refine (HMB.out _ HB1.out).mono ?_); rintro e w2 ⟨rfl, hb⟩; rw [HFB.out]; have HB2 := Lib.hid (HB1.out.trans hb); clear x0 x1 x2 x3 x4 x5 x6 x7; obtain ⟨x0, x1, x2, x3, x4, x5, x6, x7⟩ := cells8 (HX1.out.bel hb); clear hb)))
            go_roundw
            case rel => exact ⟨k + 1, by omega, by rw [HSM.out], by go_num, HB2⟩
            case measure => simp [intOf]; omega
        | true =>
          rw [he] at a5 HBX
          obtain ⟨Ls, hLs⟩ : ∃ B, B = ofL (fmtNs x.l) := ⟨_, rfl⟩
          have hLz : Ls.size ≤ 100000 := by rw [hLs, ← toL_len, toL_ofL]; have := hle.2 he; have := HS.out; omega
          have HFL := Lib.hid hLs.symm
          have HML := Lib.hid (fun W (h : Bel w W) => (HMX.out W h).2 hxg.els (by have := hle.2 he; have := HS.out; omega))
          have HSM : Hid (T ++ F ++ Bs ++ ⟨#[123, 123, 101, 108, 115, 101, 125, 125]⟩ ++ Ls ++ ⟨#[123, 123, 101, 110, 100, 125, 125]⟩ = ofL (fmtNs (l.take (k + 1)))) := Lib.hid (by
            apply toL_inj
            rw [toL_app, toL_app, toL_app, toL_app, toL_app, hT, hF, hBs, hLs, toL_ofL, toL_ofL, toL_ofL, toL_ofL, toL_ofL, hst, hfx, hb, he, show toL ⟨#[123, 123, 101, 110, 100, 125, 125]⟩ = fmt edT from rfl, show toL ⟨#[123, 123, 101, 108, 115, 101, 125, 125]⟩ = fmt elT from rfl]
            simp)
          have hk : u.k = 2 ∨ u.k = 3 ∨ u.k = 6 := by
            unfold blk at hb
            simp only [Bool.or_eq_true, beq_iff_eq] at hb
            omega
          clear hxt hst htk hfx hxg e1 e2 e3 e4 e5 e6 e7 e8 hb hT hF hBs hLs hxl hle hbi he
          rcases hk with hk | hk | hk
          · have k2 : ((u.k : Int) != 2) = false := by rw [hk]; rfl
            clear hk
            go_wp2_with (first | (go_at_call 22; ((with_reducible refine (HRF.out _).mono ?_); rintro e w1 ⟨rfl, hb⟩; rw [HFU.out]; have HB1 := Lib.hid ((HBR.out.trans (Bel.alloc _ _)).trans hb); have HX1 := Lib.hid (HBX.out.bel hb); obtain ⟨x0, x1, x2, x3, x4, x5, x6, x7⟩ := cells8 HX1.out; clear hb)) | (go_at_call 10; ((with_reducible refine (HMB.out _ HB1.out).mono ?_); rintro e w2 ⟨rfl, hb⟩; rw [HFB.out]; have HB2 := Lib.hid (HB1.out.trans hb); clear x0 x1 x2 x3 x4 x5 x6 x7; obtain ⟨x0, x1, x2, x3, x4, x5, x6, x7⟩ := cells8 (HX1.out.bel hb); clear hb)) | (go_at_call 10; ((with_reducible refine (HML.out _ HB2.out).mono ?_); rintro e w3 ⟨rfl, hb⟩; rw [HFL.out]; have HB3 := Lib.hid (HB2.out.trans hb); clear hb)))
            go_roundw
            case rel => exact ⟨k + 1, by omega, by rw [HSM.out], by go_num, HB3⟩
            case measure => simp [intOf]; omega
          · have k2 : ((u.k : Int) != 2) = true := by rw [hk]; rfl
            have k3 : ((u.k : Int) != 3) = false := by rw [hk]; rfl
            clear hk
            go_wp2_with (first | (go_at_call 22; ((with_reducible refine (HRF.out _).mono ?_); rintro e w1 ⟨rfl, hb⟩; rw [HFU.out]; have HB1 := Lib.hid ((HBR.out.trans (Bel.alloc _ _)).trans hb); have HX1 := Lib.hid (HBX.out.bel hb); obtain ⟨x0, x1, x2, x3, x4, x5, x6, x7⟩ := cells8 HX1.out; clear hb)) | (go_at_call 10; ((with_reducible refine (HMB.out _ HB1.out).mono ?_); rintro e w2 ⟨rfl, hb⟩; rw [HFB.out]; have HB2 := Lib.hid (HB1.out.trans hb); clear x0 x1 x2 x3 x4 x5 x6 x7; obtain ⟨x0, x1, x2, x3, x4, x5, x6, x7⟩ := cells8 (HX1.out.bel hb); clear hb)) | (go_at_call 10; ((with_reducible refine (HML.out _ HB2.out).mono ?_); rintro e w3 ⟨rfl, hb⟩; rw [HFL.out]; have HB3 := Lib.hid (HB2.out.trans hb); clear hb)))
            go_roundw
            case rel => exact ⟨k + 1, by omega, by rw [HSM.out], by go_num, HB3⟩
            case measure => simp [intOf]; omega
          · have k2 : ((u.k : Int) != 2) = true := by rw [hk]; rfl
            have k3 : ((u.k : Int) != 3) = true := by rw [hk]; rfl
            have k6 : ((u.k : Int) != 6) = false := by rw [hk]; rfl
            clear hk
            go_wp2_with (first | (go_at_call 22; ((with_reducible refine (HRF.out _).mono ?_); rintro e w1 ⟨rfl, hb⟩; rw [HFU.out]; have HB1 := Lib.hid ((HBR.out.trans (Bel.alloc _ _)).trans hb); have HX1 := Lib.hid (HBX.out.bel hb); obtain ⟨x0, x1, x2, x3, x4, x5, x6, x7⟩ := cells8 HX1.out; clear hb)) | (go_at_call 10; ((with_reducible refine (HMB.out _ HB1.out).mono ?_); rintro e w2 ⟨rfl, hb⟩; rw [HFB.out]; have HB2 := Lib.hid (HB1.out.trans hb); clear x0 x1 x2 x3 x4 x5 x6 x7; obtain ⟨x0, x1, x2, x3, x4, x5, x6, x7⟩ := cells8 (HX1.out.bel hb); clear hb)) | (go_at_call 10; ((with_reducible refine (HML.out _ HB2.out).mono ?_); rintro e w3 ⟨rfl, hb⟩; rw [HFL.out]; have HB3 := Lib.hid (HB2.out.trans hb); clear hb)))
            go_roundw
            case rel => exact ⟨k + 1, by omega, by rw [HSM.out], by go_num, HB3⟩
            case measure => simp [intOf]; omega
    · obtain rfl : k = n := by omega
      have HE : Hid (fmtNs (l.take k) = fmtNs l) := Lib.hid (by rw [HN.out, List.take_length])
      go_wp2_with fail
      go_ret
      exact ⟨by rw [← HE.out]; rfl, HBR.out⟩
theorem rf_all (x : NT) : RfM x := by
  refine NT.ind (M := RfM) (fun t h1 h2 => ?_) x
  intro w ht
  exact ⟨fun hg h => rf_row t.b h1 _ _ w ht.body hg h, fun hg h => rf_row t.l h2 _ _ w ht.els hg h⟩
theorem rfmt_c {l : List NT} {A : Option Addr} {c : Nat} {w : World} (hA : Row w (Lt w) A c l) (hg : ∀ x, x ∈ l → Ng x) (hle : (fmtNs l).length ≤ 100000) :
    Calls Try.prog 10 #[.slice A l.length c] w fun e w' => e = .returned (.string (ofL (fmtNs l))) ∧ Bel w w' := rf_row l (fun x _ => rf_all x) A c w hA hg hle
end Go.Proofs.Ythbcjljkpnkakaa
