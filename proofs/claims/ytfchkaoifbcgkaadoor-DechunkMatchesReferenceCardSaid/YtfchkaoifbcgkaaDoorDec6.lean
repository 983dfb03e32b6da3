/-
  The contract of dechunk.Decode; alive.
-/
import Derived.Test.YtfchkaoifbcgkaaDoorDec5
namespace Go.Proofs.YtfchkaoifbcgkaaDoor
open Go.RowKit Go.BigFrame
set_option linter.unusedVariables false
set_option linter.unusedSimpArgs false
attribute [local go_sem ↓] sliced_cut run_min2 run_max2
attribute [local go_sem] cutA_zero

/-- What Decode answers. -/
def decOf (b : List UInt8) : List UInt8 × Bool × Nat := if (feedS DSt.init 0 0 b).2.2 = 0 then ((feedS DSt.init 0 0 b).1.pay, (feedS DSt.init 0 0 b).1.complete, 0) else ([], false, (feedS DSt.init 0 0 b).2.2)
theorem decOf_run {b : List UInt8} {s : DSt} (h : runD DSt.init b = some s) : decOf b = (s.pay, s.complete, 0) := by
  unfold decOf
  rw [feedS_run h]
  rfl
/-- What comes of the state that Feed left. -/
theorem decOf_feed {b : List UInt8} {s : DSt} {o e : Nat} (h : feedS DSt.init 0 0 b = (s, o, e)) : decOf b = if e = 0 then (s.pay, s.complete, 0) else ([], false, e) := by
  unfold decOf
  rw [h]
theorem feed_good {s : DSt} {o e : Nat} {b : List UInt8} (h : feedS DSt.init 0 0 b = (s, o, e)) : Good s o ∧ o ≤ b.length ∧ e ≤ 8 := by
  obtain ⟨s', o', e', B', h1, _, h2, h3, h4⟩ := feed_same b DSt.init 0 0 [] ⟨rfl, rfl⟩
  rw [h1] at h
  simp only [Prod.mk.injEq] at h
  obtain ⟨rfl, rfl, rfl⟩ := h
  exact ⟨h2.good, by omega, by omega⟩
theorem turned_new {P : World → List Nat → Prop} {w w1 w2 : World} {T : List Nat} (hO : Only [] w w1) (hT : ∀ k, k ∈ T → w.heap.size ≤ k) (h : Turned P w1 T w2) : ∃ T', P w2 T' ∧ (∀ k, k ∈ T' → w.heap.size ≤ k) ∧ Only [] w w2 := by
  obtain ⟨T', h1, hk, hO2⟩ := h
  refine ⟨T', h1, fun k hk' => ?_, hO.join hO2 (fun k hk' => .inr (hT k hk'))⟩
  rcases hk k hk' with h | h
  · exact hT k h
  · exact Nat.le_trans hO.size h

set_option maxRecDepth 100000 in
set_option maxHeartbeats 1600000 in
theorem dec_c {w : World} (hT : Tabs w) {B n c : Nat} {X : Option Addr} {b : List UInt8} (hb : Reads w B X n (vbs b)) (hB : B ≤ w.heap.size) (hnc : n ≤ c) (hcm : c ≤ maxLen) (hn : n ≤ 1000000) (p : List UInt8) (d : Bool) (e : Nat) (hd : decOf b = (p, d, e)) :
    Calls Tryd.prog 19 #[.slice X n c] w fun x w' => ∃ Y y, x = .returned (.tuple #[.slice Y p.length y, .bool d, .int .i64 e]) ∧ RowAt w' 5 Y p.length y (vbs p) ∧ (∀ k, k ∈ rowT Y → w.heap.size ≤ k) ∧ Only [] w w' := by
  have hbl : b.length = n := by have := hb.1; rwa [vbs_length] at this
  obtain ⟨⟨s', o', e'⟩, hf⟩ : ∃ f, feedS DSt.init 0 0 b = f := ⟨_, rfl⟩
  obtain ⟨hG, ho, _⟩ := feed_good hf
  have hde := decOf_feed hf
  rw [hd] at hde
  have HF := Lib.hid (fun (w1 : World) (h1 : Dc w.heap.size DSt.init 0 0 w1 [w.heap.size]) (hO : Only [] w w1) =>
    feed_c h1 (hT.only hO) (TabFar.new hT (Nat.le_refl _) (by simp)) good_init (hb.only' hO hB (by simp)) (Nat.le_trans hB hO.size) (fun h0 ad e1 => by
      obtain ⟨ad', e2, hl, _⟩ := hb.2 h0
      rw [e1] at e2
      injection e2 with e2
      subst e2
      simp
      omega) hnc hcm (by omega) hf)
  have HG := Lib.hid hG
  have HO := Lib.hid ho
  clear hT hb hbl hf hd hG ho
  by_cases he : e' = 0
  · subst he
    rw [if_pos rfl] at hde
    simp only [Prod.mk.injEq] at hde
    obtain ⟨rfl, rfl, rfl⟩ := hde
    go_enter Tryd.func19, Tryd.ntmps19
    go_wp2_with (first | (go_at_call 15; refine (newd_c w).mono ?_; rintro e1 w1 ⟨rfl, hD1, hO1⟩; have HFW := Lib.hid (HF.out w1 hD1 hO1); have HO1 := Lib.hid hO1; clear hD1 hO1) | (go_at_call 8; refine HFW.out.mono ?_; rintro e2 w2 ⟨rfl, hT2⟩; have HT2 := Lib.hid hT2; clear hT2))
    obtain ⟨T2, ⟨A2, a2, S2, z2, Y2, y2, hD2⟩, hk2, hO2⟩ := turned_new HO1.out (by simp) HT2.out
    have d4 := fun n => (hD2.head.drewN n).cell 4
    simp only [List.getElem?_cons_succ, List.getElem?_cons_zero] at d4
    have HC := Lib.hid (fun n => complete_c ((dc_thing _ _ _ _).only ⟨A2, a2, S2, z2, Y2, y2, hD2⟩ ((Only.refl [] w2).drewN n) (by simp)) _ rfl)
    have HD2 := Lib.hid hD2
    have HO2 := Lib.hid hO2
    have HK2 := Lib.hid hk2
    clear hD2 hO2 hk2
    generalize hcb : s'.complete = cb at *
    generalize hL : s'.pay.length = L at *
    go_quiet ((go_at_call 12; exact Calls.quiet_of_same ((HC.out _).mono fun _ _ ⟨he, hw⟩ => ⟨he, hw.symm⟩)))
    go_wp2_with fail
    go_ret3
    subst hL hcb
    exact ⟨Y2, y2, rfl, HD2.out.pay.drewN _, fun k hk => HK2.out k (HD2.out.inY k hk), HO2.out.drewN _⟩
  · rw [if_neg he] at hde
    simp only [Prod.mk.injEq] at hde
    obtain ⟨rfl, rfl, rfl⟩ := hde
    have hne : ((e : Int) != 0) = true := by rw [bne_iff_ne]; omega
    have hne2 : ¬ (e : Int) = 0 := by omega
    go_enter Tryd.func19, Tryd.ntmps19
    go_wp2_with (first | (go_at_call 15; refine (newd_c w).mono ?_; rintro e1 w1 ⟨rfl, hD1, hO1⟩; have HFW := Lib.hid (HF.out w1 hD1 hO1); have HO1 := Lib.hid hO1; clear hD1 hO1) | (go_at_call 8; refine HFW.out.mono ?_; rintro e2 w2 ⟨rfl, hT2⟩; have HT2 := Lib.hid hT2; clear hT2))
    go_ret3
    obtain ⟨T2, _, _, hO2⟩ := turned_new HO1.out (by simp) HT2.out
    exact ⟨none, 0, rfl, RowAt.nil _ _, by simp [rowT], hO2⟩

/-! ### alive -/
theorem dec_first : decOf [49, 13, 10, 97] = ([97], false, 0) := by
  have e : hexLine 1 = [49, 13, 10] := by rw [hexLine, hexOf_small (by omega)]; rfl
  have h1 := parse_line (n := 1) (by omega) [97]
  rw [e] at h1
  have h2 : runD DSt.init [49, 13, 10, 97] = some ⟨3, [], 0, [1], [97]⟩ := by
    have h3 := run_line [49, 13, 10, 97] [] 0 0 [] [] (by omega) parse_nil (by simp)
    have h4 : parseOf [49, 13, 10, 97] = (1, 3, 0) := h1
    rw [List.nil_append, h4] at h3
    simp only [if_true, List.length_nil, Nat.sub_zero] at h3
    refine h3.trans ?_
    rw [run_begin]
    simp [runD]
  rw [decOf_run h2]
  rfl
theorem dec_second : decOf [48, 13, 10, 13, 10, 120] = ([], false, 8) := by
  have h1 : runD DSt.init [48, 13, 10, 13, 10] = some ⟨5, [], 0, [0], []⟩ := by
    have := run_chunk (p := []) (by simp) [] [] []
    rw [chunkOf_nil] at this
    exact this
  have h2 : feedS DSt.init 0 0 [48, 13, 10, 13, 10, 120] = (⟨5, [], 0, [0], []⟩, 5, 8) := by
    rw [show ([48, 13, 10, 13, 10, 120] : List UInt8) = [48, 13, 10, 13, 10] ++ [120] from rfl, feedS_append, feedS_run h1]
    rfl
  rw [decOf_feed h2]
  rfl
set_option maxRecDepth 100000 in
set_option maxHeartbeats 1600000 in
theorem alive_c {w : World} (hT : Tabs w) : Calls Tryd.prog 14 #[] w fun e w' => e = .returned (.bool true) ∧ Only [] w w' := by
  have kc := fun (w : World) (C : Array Value) (n c : Nat) => Lib.run_convert_bytes_const (P := Tryd.prog) w 26 5 C n c Tryd.underlying26 Tryd.underlying5
  have H1 : Hid (Calls Tryd.prog 19 #[.slice (some ⟨w.heap.size, 0, none⟩) 4 4] (w.alloc (.cells #[.int .u8 49, .int .u8 13, .int .u8 10, .int .u8 97] 5 (4, 5))) fun x w' => ∃ Y y, x = .returned (.tuple #[.slice Y 1 y, .bool false, .int .i64 0]) ∧ RowAt w' 5 Y 1 y (vbs [97]) ∧ (∀ k, k ∈ rowT Y → (w.alloc (.cells #[.int .u8 49, .int .u8 13, .int .u8 10, .int .u8 97] 5 (4, 5))).heap.size ≤ k) ∧ Only [] (w.alloc (.cells #[.int .u8 49, .int .u8 13, .int .u8 10, .int .u8 97] 5 (4, 5))) w') := Lib.hid
    (dec_c (hT.only ((Only.refl [] w).alloc _)) (Reads.fresh w [49, 13, 10, 97] #[.int .u8 49, .int .u8 13, .int .u8 10, .int .u8 97] rfl 5 (4, 5) (w.heap.size + 1) (by omega)) (by simp) (Nat.le_refl _) (by simp [maxLen]) (by simp) [97] false 0 dec_first)
  have H2 : Hid (∀ w1 : World, Tabs w1 → Calls Tryd.prog 19 #[.slice (some ⟨w1.heap.size, 0, none⟩) 6 6] (w1.alloc (.cells #[.int .u8 48, .int .u8 13, .int .u8 10, .int .u8 13, .int .u8 10, .int .u8 120] 5 (6, 7))) fun x w' => ∃ Y y, x = .returned (.tuple #[.slice Y 0 y, .bool false, .int .i64 8]) ∧ RowAt w' 5 Y 0 y (vbs []) ∧ (∀ k, k ∈ rowT Y → (w1.alloc (.cells #[.int .u8 48, .int .u8 13, .int .u8 10, .int .u8 13, .int .u8 10, .int .u8 120] 5 (6, 7))).heap.size ≤ k) ∧ Only [] (w1.alloc (.cells #[.int .u8 48, .int .u8 13, .int .u8 10, .int .u8 13, .int .u8 10, .int .u8 120] 5 (6, 7))) w') := Lib.hid fun w1 h1 =>
    dec_c (h1.only ((Only.refl [] w1).alloc _)) (Reads.fresh w1 [48, 13, 10, 13, 10, 120] #[.int .u8 48, .int .u8 13, .int .u8 10, .int .u8 13, .int .u8 10, .int .u8 120] rfl 5 (6, 7) (w1.heap.size + 1) (by omega)) (by simp) (Nat.le_refl _) (by simp [maxLen]) (by simp) [] false 8 dec_second
  have HT := Lib.hid hT
  clear hT
  go_enter Tryd.func14, Tryd.ntmps14
  go_wp2_with (first | (go_at_call 19; (with_reducible refine H1.out.mono ?_); rintro e1 w1 ⟨Y1, y1, rfl, hR1, _, hO1⟩; have HR1 := Lib.hid hR1; have HO1 := Lib.hid (((Only.refl [] w).alloc _).trans hO1); clear hR1 hO1; have H2' := Lib.hid (H2.out w1 (HT.out.only HO1.out))) | (go_at_call 19; (with_reducible refine H2'.out.mono ?_); rintro e2 w2 ⟨Y2, y2, rfl, _, _, hO2⟩; have HO2 := Lib.hid (((Only.refl [] w1).alloc (.cells #[.int .u8 48, .int .u8 13, .int .u8 10, .int .u8 13, .int .u8 10, .int .u8 120] 5 (6, 7))).trans hO2); clear hO2; have hcv : (convert 26 9 (.slice Y1 1 y1)).run Tryd.prog w2 = .ok (.string ⟨#[97]⟩) w2 := row_str HR1.out w2 HO2.out))
  go_ret
  exact ⟨rfl, HO1.out.trans HO2.out⟩
end Go.Proofs.YtfchkaoifbcgkaaDoor
