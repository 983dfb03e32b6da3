/-
  The law ValueFromRejects, walked.
-/
import Derived.Test.YtmgnomahnndeaaaDoorRej9
namespace Go.Proofs.YtmgnomahnndeaaaDoor
open Go.RowKit Go.BigFrame Go.Maps Go.WideMaps
set_option linter.unusedVariables false
set_option linter.unusedSimpArgs false
set_option maxRecDepth 100000 in
set_option maxHeartbeats 400000 in
theorem rejLaw (n : Int) (s key : ByteArray) (w : World) (hT : MX w) (hn : (Lit.int .i32 n).wf = true) (hs : s.size ≤ maxLen) (hk : key.size ≤ maxLen) :
    Calls Tryd.prog 8 #[.int .i32 n, .string s, .string key] w fun e w' => e = .returned (.bool true) ∧ Below w.heap.size w w' := by
  have hs' : s.size ≤ 9223372036854775807 := hs
  have hk' : key.size ≤ 9223372036854775807 := hk
  have HT := Lib.hid hT
  have HA := Lib.hid (fun (W : World) (h : MX W) => alive_c W h)
  clear hT hs hk
  by_cases hbig : 1000 < s.size ∨ 1000 < key.size
  · have HW0 : Hid (Bel w w) := Lib.hid (bel_of_only (Only.refl _ _))
    go_enter Tryd.func8, Tryd.ntmps8
    go_wp2_with (go_at_call 9; refine (HA.out _ HT.out).mono ?_; rintro e w3 ⟨rfl, hb⟩; have HB3 := Lib.hid hb; clear hb)
    all_goals (go_ret; exact ⟨rfl, HB3.out⟩)
  · have hs1 : s.size ≤ 1000 := by omega
    have hk1 : key.size ≤ 1000 := by omega
    have hn64 : -9223372036854775808 ≤ n ∧ n ≤ 9223372036854775807 := by have h := hn; simp [Lit.wf, IntKind.min, IntKind.max, IntKind.bits, IntKind.signed] at h; omega
    clear hbig
    have hmm := @run_makeMap Tryd.prog
    obtain ⟨c1, w1, hb1, hB1, hz1⟩ := bytes_at w s
    have hkey : keyOf Tryd.prog 9 (.string ⟨#[97]⟩) = some (.string (kL ⟨#[97]⟩)) := keyOf_string_mk Tryd.underlying9 (by decide)
    have hm0 := World.ownsMap_made ((w1.alloc (.cells #[.string s] 9)).alloc (.cells #[.iface 9 (.string s), .nilIface] 20)) Tryd.prog 9 AT.RV
    have e1 : ((w1.alloc (.cells #[.string s] 9)).alloc (.cells #[.iface 9 (.string s), .nilIface] 20)).heap.size = w.heap.size + 1 + 1 + 1 := by simp [hz1]
    rw [e1] at hm0
    obtain ⟨w2, hu1, hm1, hg1⟩ := hm0.update keyLaw Tryd.underlying54 (by decide) hkey (val := .iface 21 (.int .i32 n)) (show AT.RV _ = some (.held (.iface 21 (.int .i32 n)), []) from rfl)
    have hn0 := World.ownsMap_made w2 Tryd.prog 9 AT.RV
    obtain ⟨w3, hu2, hn1, hg2⟩ := hn0.update keyLaw Tryd.underlying55 (by decide) hkey (val := .int .i64 1) (show AT.RV _ = some (.held (.int .i64 1), []) from rfl)
    have hB2 : Bel w w2 := Below.grown (((hB1.trans (Bel.alloc _ _)).trans (Bel.alloc _ _)).trans (Bel.alloc _ _)) hg1 (((hB1.trans (Bel.alloc _ _)).trans (Bel.alloc _ _)).trans (Bel.alloc _ _)).size (fun j hj => by cases hj; omega)
    have hB3 : Bel w w3 := Below.grown (hB2.trans (Bel.alloc _ _)) hg2 (hB2.trans (Bel.alloc _ _)).size (fun j hj => by cases hj; exact hB2.size)
    have hl0 := ((Blk.new (w1.alloc (.cells #[.string s] 9)) 20 [.iface 9 (.string s), .nilIface]).alloc (.map #[] 0))
    have e2 : (w1.alloc (.cells #[.string s] 9)).heap.size = w.heap.size + 1 + 1 := by simp [hz1]
    rw [e2] at hl0
    have hl1 := blk_grown hl0 hg1 (by intro h; injection h with h; omega)
    have hlt2 := hl1.lt
    have hl2 := blk_grown (hl1.alloc (.map #[] 0)) hg2 (by intro h; injection h with h; omega)
    have hm2 := (hm1.alloc (.map #[] 0)).kept hg2 (by intro h; injection h with h; have := hm1.lt; omega)
    obtain ⟨S, hS⟩ : ∃ S : List Value, S = [.nilIface, .iface 21 (.int .i32 n), .iface 52 (.slice (some ⟨w.heap.size, 0, none⟩) s.size c1), .iface 23 (.slice (some ⟨w.heap.size + 1, 0, none⟩) 1 1), .iface 53 (.slice (some ⟨w.heap.size + 1 + 1, 0, none⟩) 2 2), .iface 54 (.map (some (w.heap.size + 1 + 1 + 1))), .iface 55 (.map (some w2.heap.size))] := ⟨_, rfl⟩
    have HXS : Hid (∀ i, i < 7 → ∃ a : AT, S[i]? = some a.val ∧ a.In (w3.alloc (.cells S.toArray 20)) (· < (w3.alloc (.cells S.toArray 20)).heap.size) ∧ a.hle 3 ∧ a.conv = none) := Lib.hid (fun i hi => by
      subst hS
      rcases (by omega : i = 0 ∨ i = 1 ∨ i = 2 ∨ i = 3 ∨ i = 4 ∨ i = 5 ∨ i = 6) with rfl | rfl | rfl | rfl | rfl | rfl | rfl
      · exact ⟨.bad .nilIface, rfl, .bad _ bad_nil, trivial, by rw [AT.conv]⟩
      · exact ⟨.bad _, rfl, .bad _ (bad_i32 _), trivial, by rw [AT.conv]⟩
      · exact ⟨.bad _, rfl, .bad _ (bad_bytes _), trivial, by rw [AT.conv]⟩
      · exact ⟨.bad _, rfl, .bad _ (bad_strs _), trivial, by rw [AT.conv]⟩
      · refine ⟨.list (some ⟨w.heap.size + 1 + 1, 0, none⟩) 2 [.str s, .bad .nilIface], rfl, .list _ _ _ (by simp) (fun _ => ⟨w.heap.size + 1 + 1, 0, rfl, (hl2.alloc _).lt, fun j x hx => ?_⟩) (fun x hx => ?_), fun x hx => ?_, conv_list_none (k := 1) rfl (by rw [AT.conv])⟩
        · rw [Nat.zero_add, (hl2.alloc _).cell]
          rcases j with _ | _ | j
          · simp at hx; subst hx; rfl
          · simp at hx; subst hx; rfl
          · simp at hx
        · simp at hx
          rcases hx with rfl | rfl
          · exact .str _ (by omega)
          · exact .bad _ bad_nil
        · simp at hx
          rcases hx with rfl | rfl <;> trivial
      · refine ⟨.map (w.heap.size + 1 + 1 + 1) [⟨#[97]⟩] [.bad (.iface 21 (.int .i32 n))], rfl, .map _ _ _ (hm2.alloc _).lt rfl (by simp) (by simp) (holds_one (hm2.alloc _)) (fun k hk => ?_) (fun x hx => ?_), fun x hx => ?_, conv_map_none (j := 0) rfl (by rw [AT.conv])⟩
        · simp at hk; subst hk; decide
        · simp at hx; subst hx; exact .bad _ (bad_i32 _)
        · simp at hx; subst hx; trivial
      · exact ⟨.bad _, rfl, .bad _ (bad_ints _), trivial, by rw [AT.conv]⟩)
    have HS0 : Hid (Blk (w3.alloc (.cells S.toArray 20)) w3.heap.size 20 S) := Lib.hid (Blk.new w3 20 S)
    have HB0 : Hid (Bel w (w3.alloc (.cells S.toArray 20))) := Lib.hid (hB3.trans (Bel.alloc _ _))
    have HSL := Lib.hid hS
    clear hm0 hm1 hm2 hn0 hn1 hg1 hg2 hB1 hB2 hB3 hl0 hl1 hl2 hlt2 e1 e2 hkey hS
    go_enter Tryd.func8, Tryd.ntmps8
    go_wp2_with fail
    go_loopw [48] (fun s48 wr => ∃ k : Nat, k ≤ 7 ∧ s48 = .int .i64 k ∧ Hid (Bel w wr) ∧ Hid (Blk wr w3.heap.size 20 S) ∧ Hid (∀ i, i < 7 → ∃ a : AT, S[i]? = some a.val ∧ a.In wr (· < wr.heap.size) ∧ a.hle 3 ∧ a.conv = none)) (fun s48 _ => 7 - (intOf s48).toNat)
    case atStart =>
      refine ⟨0, by omega, rfl, Lib.hid ?_, Lib.hid ?_, Lib.hid ?_⟩
      · have h := HB0.out; rw [HSL.out] at h; exact h
      · have h := HS0.out; rw [HSL.out] at h ⊢; exact h
      · have h := HXS.out; rw [HSL.out] at h ⊢; exact h
    case round =>
      obtain ⟨k, hk, rfl, HB, HBL, HX⟩ := hrel
      clear HXS HS0 HB0
      by_cases hlt : k < 7
      · obtain ⟨a, hSk, hIn, hh, hc⟩ := HX.out k hlt
        have c0 := (HBL.out.cell k).trans hSk
        have HF := Lib.hid (from_none a 3 (by omega) hh wr hIn hc)
        clear hSk hIn hh hc
        generalize a.val = x at c0 HF
        clear a
        go_wp2_with (go_at_call 24; refine HF.out.mono ?_; rintro e w4 ⟨rfl, hb⟩; have HB4 := Lib.hid (hb.trans (Bel.alloc _ (.cells #[.int .i64 0, .string ByteArray.empty, .int .i64 0, .bool false, .slice none 0 0, .slice none 0 0] 34))); clear hb)
        have HX4 : Hid (Bel wr (w4.alloc (.cells #[.int .i64 0, .string ByteArray.empty, .int .i64 0, .bool false, .slice none 0 0, .slice none 0 0] 34))) := HB4
        clear HF c0
        go_roundw
        case rel => exact ⟨k + 1, by omega, by go_num, Lib.hid (HB.out.trans HX4.out), Lib.hid (HBL.out.below HX4.out HBL.out.lt), Lib.hid (fun i hi => by
          obtain ⟨a, h1, h2, h3, h4⟩ := HX.out i hi
          exact ⟨a, h1, h2.bel HX4.out, h3, h4⟩)⟩
        case measure => simp [intOf]; omega
      · obtain rfl : k = 7 := by omega
        have FI := Lib.hid (from_int n hn64 wr)
        clear HX HBL hlt hk
        have hkey : keyOf Tryd.prog 9 (.string key) = some (.string (kL key)) := keyOf_string_mk Tryd.underlying9 hk'
        cases hnm : nameB key with
        | false =>
          have FMAP : ∀ {B N : Nat} (W : World), W.ownsMap Tryd.prog 9 AT.RV B N ((DataW.map []).put (.string (kL key)) (.held (.iface 9 (.string s)))) → Calls Tryd.prog 24 #[.iface 54 (.map (some B))] W fun e w' => Bel W w' ∧ e = .returned (.tuple #[.agg #[.int .i64 0, .string ByteArray.empty, .int .i64 0, .bool false, .slice none 0 0, .slice none 0 0], .int .i64 11]) := fun W h => (from_map s key hs1 hk1 _ _ W h).mono fun e w' h => ⟨h.1, (h.2.resolve_right fun h2 => by have := h2.1; rw [hnm] at this; cases this).2⟩
          have HNM := Lib.hid (fun W => isName_c key hk' W)
          rw [hnm] at HNM
          clear hnm
          have hq1 := str_eq (rfl : key = key)
          have hq2 := str_eq (rfl : s = s)
          go_wp2_with (first | (go_at_call 24; (with_reducible refine FI.out.mono ?_); rintro e w5 ⟨A1, cc1, F1, d1, rfl, hb⟩; have HB5 := Lib.hid (show Bel w ((w5.alloc (.cells #[.int .i64 1, .string ByteArray.empty, .int .i64 n, .bool false, .slice A1 0 cc1, .slice F1 0 d1] 34)).alloc (.cells #[.iface 2 (.int .i64 n), .iface 9 (.string s), .iface 4 (.bool true)] 20)) from HB.out.trans (hb.trans ((Bel.alloc _ _).trans (Bel.alloc _ _)))); have HA5 := Lib.hid (show Blk ((w5.alloc (.cells #[.int .i64 1, .string ByteArray.empty, .int .i64 n, .bool false, .slice A1 0 cc1, .slice F1 0 d1] 34)).alloc (.cells #[.iface 2 (.int .i64 n), .iface 9 (.string s), .iface 4 (.bool true)] 20)) w5.heap.size 34 [.int .i64 1, .string ByteArray.empty, .int .i64 n, .bool false, .slice A1 0 cc1, .slice F1 0 d1] from (Blk.new w5 34 [.int .i64 1, .string ByteArray.empty, .int .i64 n, .bool false, .slice A1 0 cc1, .slice F1 0 d1]).alloc _); have FL := Lib.hid (from_list n hn64 s hs1 (w5.heap.size + 1) ((w5.alloc (.cells #[.int .i64 1, .string ByteArray.empty, .int .i64 n, .bool false, .slice A1 0 cc1, .slice F1 0 d1] 34)).alloc (.cells #[.iface 2 (.int .i64 n), .iface 9 (.string s), .iface 4 (.bool true)] 20)) (by have h := Blk.new (w5.alloc (.cells #[.int .i64 1, .string ByteArray.empty, .int .i64 n, .bool false, .slice A1 0 cc1, .slice F1 0 d1] 34)) 20 [.iface 2 (.int .i64 n), .iface 9 (.string s), .iface 4 (.bool true)]; rwa [show (w5.alloc (.cells #[.int .i64 1, .string ByteArray.empty, .int .i64 n, .bool false, .slice A1 0 cc1, .slice F1 0 d1] 34)).heap.size = w5.heap.size + 1 by simp] at h)); clear hb) | (go_at_call 24; (with_reducible refine FL.out.mono ?_); rintro e w6 ⟨g, o, c6, F6, d6, rfl, hb, hg, q0, q1, q2⟩; have HB6 := Lib.hid (show Bel w (w6.alloc (.cells #[.int .i64 3, .string ByteArray.empty, .int .i64 0, .bool false, .slice (some ⟨g, o, none⟩) 3 c6, .slice F6 0 d6] 34)) from HB5.out.trans (hb.trans (Bel.alloc _ _))); have HA6 := Lib.hid (show Blk (w6.alloc (.cells #[.int .i64 3, .string ByteArray.empty, .int .i64 0, .bool false, .slice (some ⟨g, o, none⟩) 3 c6, .slice F6 0 d6] 34)) w5.heap.size 34 [.int .i64 1, .string ByteArray.empty, .int .i64 n, .bool false, .slice A1 0 cc1, .slice F1 0 d1] from (HA5.out.below hb HA5.out.lt).alloc _); have HBB6 := Lib.hid (show Blk (w6.alloc (.cells #[.int .i64 3, .string ByteArray.empty, .int .i64 0, .bool false, .slice (some ⟨g, o, none⟩) 3 c6, .slice F6 0 d6] 34)) w6.heap.size 34 [.int .i64 3, .string ByteArray.empty, .int .i64 0, .bool false, .slice (some ⟨g, o, none⟩) 3 c6, .slice F6 0 d6] from Blk.new w6 34 [.int .i64 3, .string ByteArray.empty, .int .i64 0, .bool false, .slice (some ⟨g, o, none⟩) 3 c6, .slice F6 0 d6]); have HG6 := Lib.hid (show g < (w6.alloc (.cells #[.int .i64 3, .string ByteArray.empty, .int .i64 0, .bool false, .slice (some ⟨g, o, none⟩) 3 c6, .slice F6 0 d6] 34)).heap.size from by simp; omega); have HQ0 := Lib.hid (((Bel.alloc w6 (.cells #[.int .i64 3, .string ByteArray.empty, .int .i64 0, .bool false, .slice (some ⟨g, o, none⟩) 3 c6, .slice F6 0 d6] 34)).cell hg).trans q0); have HQ1 := Lib.hid (((Bel.alloc w6 (.cells #[.int .i64 3, .string ByteArray.empty, .int .i64 0, .bool false, .slice (some ⟨g, o, none⟩) 3 c6, .slice F6 0 d6] 34)).cell hg).trans q1); have HQ2 := Lib.hid (((Bel.alloc w6 (.cells #[.int .i64 3, .string ByteArray.empty, .int .i64 0, .bool false, .slice (some ⟨g, o, none⟩) 3 c6, .slice F6 0 d6] 34)).cell hg).trans q2); have hm0 := World.ownsMap_made (w6.alloc (.cells #[.int .i64 3, .string ByteArray.empty, .int .i64 0, .bool false, .slice (some ⟨g, o, none⟩) 3 c6, .slice F6 0 d6] 34)) Tryd.prog 9 AT.RV; rw [show (w6.alloc (.cells #[.int .i64 3, .string ByteArray.empty, .int .i64 0, .bool false, .slice (some ⟨g, o, none⟩) 3 c6, .slice F6 0 d6] 34)).heap.size = w6.heap.size + 1 by simp] at hm0; obtain ⟨w7, hu7, hm7, hg7⟩ := hm0.update keyLaw Tryd.underlying54 (of_decide_eq_true rfl) hkey (val := .iface 9 (.string s)) (show AT.RV _ = some (.held (.iface 9 (.string s)), []) from rfl); have hb7 : Bel (w6.alloc (.cells #[.int .i64 3, .string ByteArray.empty, .int .i64 0, .bool false, .slice (some ⟨g, o, none⟩) 3 c6, .slice F6 0 d6] 34)) w7 := Below.grown (Bel.alloc _ _) hg7 (Bel.alloc _ _).size (fun j hj => by cases hj; simp); have HB7 := Lib.hid (HB6.out.trans hb7); have HA7 := Lib.hid (HA6.out.below hb7 HA6.out.lt); have HBB7 := Lib.hid (HBB6.out.below hb7 HBB6.out.lt); have HG7 := Lib.hid (show g < w7.heap.size from Nat.lt_of_lt_of_le HG6.out hb7.size); have HR0 := Lib.hid ((hb7.cell HG6.out).trans HQ0.out); have HR1 := Lib.hid ((hb7.cell HG6.out).trans HQ1.out); have HR2 := Lib.hid ((hb7.cell HG6.out).trans HQ2.out); have FM := Lib.hid (FMAP w7 hm7); clear hb hg q0 q1 q2 hm0 hm7 hg7 hb7) | (go_at_call 24; (with_reducible refine FM.out.mono ?_); rintro e w8 ⟨hb, rfl⟩; have HB8 := Lib.hid (show Bel w (w8.alloc (.cells #[.int .i64 0, .string ByteArray.empty, .int .i64 0, .bool false, .slice none 0 0, .slice none 0 0] 34)) from HB7.out.trans (hb.trans (Bel.alloc _ _))); have hA := (HA7.out.below hb HA7.out.lt).alloc (.cells #[.int .i64 0, .string ByteArray.empty, .int .i64 0, .bool false, .slice none 0 0, .slice none 0 0] 34); have hBB := (HBB7.out.below hb HBB7.out.lt).alloc (.cells #[.int .i64 0, .string ByteArray.empty, .int .i64 0, .bool false, .slice none 0 0, .slice none 0 0] 34); have a0 := hA.cell 0; have b0 := hBB.cell 0; have a1 := hA.cell 1; have b1 := hBB.cell 1; have a2 := hA.cell 2; have b2 := hBB.cell 2; have a3 := hA.cell 3; have b3 := hBB.cell 3; have a4 := hA.cell 4; have b4 := hBB.cell 4; have a5 := hA.cell 5; have b5 := hBB.cell 5; have hbb := hb.trans (Bel.alloc w8 (.cells #[.int .i64 0, .string ByteArray.empty, .int .i64 0, .bool false, .slice none 0 0, .slice none 0 0] 34)); have r0 := (hbb.cell HG7.out).trans HR0.out; have r1 := (hbb.cell HG7.out).trans HR1.out; have r2 := (hbb.cell HG7.out).trans HR2.out; clear hA hBB hbb hb) | (go_at_call 12; refine (HNM.out _).mono ?_; rintro e w9 ⟨rfl, rfl⟩) | (go_at_call 9; refine (HA.out _ (HT.out.bel HB8.out)).mono ?_; rintro e w9 ⟨rfl, hb9⟩; have HB9 := Lib.hid (HB8.out.trans hb9); clear hb9))
          all_goals (go_ret; exact ⟨rfl, HB9.out⟩)
        | true =>
          have FMAP : ∀ {B N : Nat} (W : World), W.ownsMap Tryd.prog 9 AT.RV B N ((DataW.map []).put (.string (kL key)) (.held (.iface 9 (.string s)))) → Calls Tryd.prog 24 #[.iface 54 (.map (some B))] W fun e w' => Bel W w' ∧ ∃ (A : Option Addr) (c g o d : Nat), e = .returned (.tuple #[.agg #[.int .i64 4, .string ByteArray.empty, .int .i64 0, .bool false, .slice A 0 c, .slice (some ⟨g, o, none⟩) 1 d], .int .i64 0]) ∧ g < w'.heap.size ∧ w'.cell? ⟨g, o, none⟩ = some (.string key) ∧ w'.cell? ⟨g, o + 1 + 1, none⟩ = some (.string s) := fun W h => (from_map s key hs1 hk1 _ _ W h).mono fun e w' h => ⟨h.1, (h.2.resolve_left fun h2 => by have := h2.1; rw [hnm] at this; cases this).2⟩
          have HNM := Lib.hid (fun W => isName_c key hk' W)
          rw [hnm] at HNM
          clear hnm
          have hq1 := str_eq (rfl : key = key)
          have hq2 := str_eq (rfl : s = s)
          go_wp2_with (first | (go_at_call 24; (with_reducible refine FI.out.mono ?_); rintro e w5 ⟨A1, cc1, F1, d1, rfl, hb⟩; have HB5 := Lib.hid (show Bel w ((w5.alloc (.cells #[.int .i64 1, .string ByteArray.empty, .int .i64 n, .bool false, .slice A1 0 cc1, .slice F1 0 d1] 34)).alloc (.cells #[.iface 2 (.int .i64 n), .iface 9 (.string s), .iface 4 (.bool true)] 20)) from HB.out.trans (hb.trans ((Bel.alloc _ _).trans (Bel.alloc _ _)))); have HA5 := Lib.hid (show Blk ((w5.alloc (.cells #[.int .i64 1, .string ByteArray.empty, .int .i64 n, .bool false, .slice A1 0 cc1, .slice F1 0 d1] 34)).alloc (.cells #[.iface 2 (.int .i64 n), .iface 9 (.string s), .iface 4 (.bool true)] 20)) w5.heap.size 34 [.int .i64 1, .string ByteArray.empty, .int .i64 n, .bool false, .slice A1 0 cc1, .slice F1 0 d1] from (Blk.new w5 34 [.int .i64 1, .string ByteArray.empty, .int .i64 n, .bool false, .slice A1 0 cc1, .slice F1 0 d1]).alloc _); have FL := Lib.hid (from_list n hn64 s hs1 (w5.heap.size + 1) ((w5.alloc (.cells #[.int .i64 1, .string ByteArray.empty, .int .i64 n, .bool false, .slice A1 0 cc1, .slice F1 0 d1] 34)).alloc (.cells #[.iface 2 (.int .i64 n), .iface 9 (.string s), .iface 4 (.bool true)] 20)) (by have h := Blk.new (w5.alloc (.cells #[.int .i64 1, .string ByteArray.empty, .int .i64 n, .bool false, .slice A1 0 cc1, .slice F1 0 d1] 34)) 20 [.iface 2 (.int .i64 n), .iface 9 (.string s), .iface 4 (.bool true)]; rwa [show (w5.alloc (.cells #[.int .i64 1, .string ByteArray.empty, .int .i64 n, .bool false, .slice A1 0 cc1, .slice F1 0 d1] 34)).heap.size = w5.heap.size + 1 by simp] at h)); clear hb) | (go_at_call 24; (with_reducible refine FL.out.mono ?_); rintro e w6 ⟨g, o, c6, F6, d6, rfl, hb, hg, q0, q1, q2⟩; have HB6 := Lib.hid (show Bel w (w6.alloc (.cells #[.int .i64 3, .string ByteArray.empty, .int .i64 0, .bool false, .slice (some ⟨g, o, none⟩) 3 c6, .slice F6 0 d6] 34)) from HB5.out.trans (hb.trans (Bel.alloc _ _))); have HA6 := Lib.hid (show Blk (w6.alloc (.cells #[.int .i64 3, .string ByteArray.empty, .int .i64 0, .bool false, .slice (some ⟨g, o, none⟩) 3 c6, .slice F6 0 d6] 34)) w5.heap.size 34 [.int .i64 1, .string ByteArray.empty, .int .i64 n, .bool false, .slice A1 0 cc1, .slice F1 0 d1] from (HA5.out.below hb HA5.out.lt).alloc _); have HBB6 := Lib.hid (show Blk (w6.alloc (.cells #[.int .i64 3, .string ByteArray.empty, .int .i64 0, .bool false, .slice (some ⟨g, o, none⟩) 3 c6, .slice F6 0 d6] 34)) w6.heap.size 34 [.int .i64 3, .string ByteArray.empty, .int .i64 0, .bool false, .slice (some ⟨g, o, none⟩) 3 c6, .slice F6 0 d6] from Blk.new w6 34 [.int .i64 3, .string ByteArray.empty, .int .i64 0, .bool false, .slice (some ⟨g, o, none⟩) 3 c6, .slice F6 0 d6]); have HG6 := Lib.hid (show g < (w6.alloc (.cells #[.int .i64 3, .string ByteArray.empty, .int .i64 0, .bool false, .slice (some ⟨g, o, none⟩) 3 c6, .slice F6 0 d6] 34)).heap.size from by simp; omega); have HQ0 := Lib.hid (((Bel.alloc w6 (.cells #[.int .i64 3, .string ByteArray.empty, .int .i64 0, .bool false, .slice (some ⟨g, o, none⟩) 3 c6, .slice F6 0 d6] 34)).cell hg).trans q0); have HQ1 := Lib.hid (((Bel.alloc w6 (.cells #[.int .i64 3, .string ByteArray.empty, .int .i64 0, .bool false, .slice (some ⟨g, o, none⟩) 3 c6, .slice F6 0 d6] 34)).cell hg).trans q1); have HQ2 := Lib.hid (((Bel.alloc w6 (.cells #[.int .i64 3, .string ByteArray.empty, .int .i64 0, .bool false, .slice (some ⟨g, o, none⟩) 3 c6, .slice F6 0 d6] 34)).cell hg).trans q2); have hm0 := World.ownsMap_made (w6.alloc (.cells #[.int .i64 3, .string ByteArray.empty, .int .i64 0, .bool false, .slice (some ⟨g, o, none⟩) 3 c6, .slice F6 0 d6] 34)) Tryd.prog 9 AT.RV; rw [show (w6.alloc (.cells #[.int .i64 3, .string ByteArray.empty, .int .i64 0, .bool false, .slice (some ⟨g, o, none⟩) 3 c6, .slice F6 0 d6] 34)).heap.size = w6.heap.size + 1 by simp] at hm0; obtain ⟨w7, hu7, hm7, hg7⟩ := hm0.update keyLaw Tryd.underlying54 (of_decide_eq_true rfl) hkey (val := .iface 9 (.string s)) (show AT.RV _ = some (.held (.iface 9 (.string s)), []) from rfl); have hb7 : Bel (w6.alloc (.cells #[.int .i64 3, .string ByteArray.empty, .int .i64 0, .bool false, .slice (some ⟨g, o, none⟩) 3 c6, .slice F6 0 d6] 34)) w7 := Below.grown (Bel.alloc _ _) hg7 (Bel.alloc _ _).size (fun j hj => by cases hj; simp); have HB7 := Lib.hid (HB6.out.trans hb7); have HA7 := Lib.hid (HA6.out.below hb7 HA6.out.lt); have HBB7 := Lib.hid (HBB6.out.below hb7 HBB6.out.lt); have HG7 := Lib.hid (show g < w7.heap.size from Nat.lt_of_lt_of_le HG6.out hb7.size); have HR0 := Lib.hid ((hb7.cell HG6.out).trans HQ0.out); have HR1 := Lib.hid ((hb7.cell HG6.out).trans HQ1.out); have HR2 := Lib.hid ((hb7.cell HG6.out).trans HQ2.out); have FM := Lib.hid (FMAP w7 hm7); clear hb hg q0 q1 q2 hm0 hm7 hg7 hb7) | (go_at_call 24; (with_reducible refine FM.out.mono ?_); rintro e w8 ⟨hb, A8, c8, g8, o8, d8, rfl, hg8, s0, s1⟩; have HB8 := Lib.hid (show Bel w (w8.alloc (.cells #[.int .i64 4, .string ByteArray.empty, .int .i64 0, .bool false, .slice A8 0 c8, .slice (some ⟨g8, o8, none⟩) 1 d8] 34)) from HB7.out.trans (hb.trans (Bel.alloc _ _))); have hA := (HA7.out.below hb HA7.out.lt).alloc (.cells #[.int .i64 4, .string ByteArray.empty, .int .i64 0, .bool false, .slice A8 0 c8, .slice (some ⟨g8, o8, none⟩) 1 d8] 34); have hBB := (HBB7.out.below hb HBB7.out.lt).alloc (.cells #[.int .i64 4, .string ByteArray.empty, .int .i64 0, .bool false, .slice A8 0 c8, .slice (some ⟨g8, o8, none⟩) 1 d8] 34); have a0 := hA.cell 0; have b0 := hBB.cell 0; have a1 := hA.cell 1; have b1 := hBB.cell 1; have a2 := hA.cell 2; have b2 := hBB.cell 2; have a3 := hA.cell 3; have b3 := hBB.cell 3; have a4 := hA.cell 4; have b4 := hBB.cell 4; have a5 := hA.cell 5; have b5 := hBB.cell 5; have hbb := hb.trans (Bel.alloc w8 (.cells #[.int .i64 4, .string ByteArray.empty, .int .i64 0, .bool false, .slice A8 0 c8, .slice (some ⟨g8, o8, none⟩) 1 d8] 34)); have r0 := (hbb.cell HG7.out).trans HR0.out; have r1 := (hbb.cell HG7.out).trans HR1.out; have r2 := (hbb.cell HG7.out).trans HR2.out; have t0 := ((Bel.alloc w8 (.cells #[.int .i64 4, .string ByteArray.empty, .int .i64 0, .bool false, .slice A8 0 c8, .slice (some ⟨g8, o8, none⟩) 1 d8] 34)).cell hg8).trans s0; have t1 := ((Bel.alloc w8 (.cells #[.int .i64 4, .string ByteArray.empty, .int .i64 0, .bool false, .slice A8 0 c8, .slice (some ⟨g8, o8, none⟩) 1 d8] 34)).cell hg8).trans s1; have HT0 := Lib.hid t0; have HT1 := Lib.hid t1; have HG8 := Lib.hid (show g8 < (w8.alloc (.cells #[.int .i64 4, .string ByteArray.empty, .int .i64 0, .bool false, .slice A8 0 c8, .slice (some ⟨g8, o8, none⟩) 1 d8] 34)).heap.size from by simp; omega); clear s0 s1; clear hA hBB hbb hb) | (go_at_call 12; refine (HNM.out _).mono ?_; rintro e w9 ⟨rfl, rfl⟩) | (go_at_call 9; refine (HA.out _ (HT.out.bel HB8.out)).mono ?_; rintro e w9 ⟨rfl, hb9⟩; have HB9 := Lib.hid (HB8.out.trans hb9); have hC := (Blk.new w8 34 [.int .i64 4, .string ByteArray.empty, .int .i64 0, .bool false, .slice A8 0 c8, .slice (some ⟨g8, o8, none⟩) 1 d8]).below hb9 (Blk.new w8 34 [.int .i64 4, .string ByteArray.empty, .int .i64 0, .bool false, .slice A8 0 c8, .slice (some ⟨g8, o8, none⟩) 1 d8]).lt; have k0 := hC.cell 0; have k5 := hC.cell 5; clear t0 t1; have t0 := (hb9.cell HG8.out).trans HT0.out; have t1 := (hb9.cell HG8.out).trans HT1.out; clear hC; clear hb9))
          all_goals (go_ret; exact ⟨rfl, HB9.out⟩)
end Go.Proofs.YtmgnomahnndeaaaDoor
