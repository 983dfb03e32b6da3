/-
  Contracts of the decoder's decode and Feed.
-/
import Derived.Test.YtfchkaoifbcgkaaDoorDec4
namespace Go.Proofs.YtfchkaoifbcgkaaDoor
open Go.RowKit Go.BigFrame
set_option linter.unusedVariables false
set_option linter.unusedSimpArgs false
attribute [local go_sem ↓] sliced_cut run_min2 run_max2
attribute [local go_sem] cutA_zero

theorem Turned.dec_head {w w1 : World} {T : List Nat} {r : Nat} {s : DSt} {o e : Nat} (h : Turned (Dc r s o e) w T w1) : ∃ A a S z Y y, Blk w1 r 54 [.int .i64 s.place, .slice A s.line.length a, .int .i64 s.miss, .slice S s.sizes.length z, .slice Y s.pay.length y, .int .i64 o, .int .i64 e] := by
  obtain ⟨T1, h1, _, _⟩ := h
  exact h1.head

/-! ### decode -/
set_option maxRecDepth 100000 in
set_option maxHeartbeats 800000 in
theorem decode_ok {w : World} {T : List Nat} {r : Nat} {s s' : DSt} {o e : Nat} (h : Dc r s o e w T) (hT : Tabs w) (hf : TabFar T) (hG : Good s o) (ho : o ≤ 1000000) (c : UInt8) (ha : acc s c = some s') :
    Calls Tryd.prog 22 #[.pointer (some ⟨r, 0, none⟩), .int .u8 (c.toNat : Int)] w fun e' w' => e' = .returned (.int .i64 0) ∧ Turned (Dc r s' (o + 1) e) w T w' := by
  have HA := Lib.hid (accept_c h hT hf hG ho c true (.inl ⟨ha, rfl⟩))
  clear h hT hf hG ha
  have hw : IntKind.i64.wrap ((o : Int) + 1) = ((o + 1 : Nat) : Int) := by rw [wrap_small _ (by omega) (by omega)]; omega
  go_enter Tryd.func22, Tryd.ntmps22
  go_wp2_with (go_at_call 31; refine HA.out.mono ?_; rintro e1 w1 ⟨rfl, hT1⟩; have HT1 := Lib.hid hT1; obtain ⟨A1, a1, S1, z1, Y1, y1, hb1⟩ := hT1.dec_head; have HB1 := Lib.hid hb1; have d5 := hb1.cell 5; have f5 := hb1.free 5; clear hT1 hb1; simp only [List.getElem?_cons_succ, List.getElem?_cons_zero] at d5)
  go_ret
  refine ⟨rfl, HT1.out.trans fun T1 h1 => ?_⟩
  obtain ⟨A, a, S, z, Y, y, h1⟩ := h1
  refine dec_head h1 ((Only.refl _ w1).setCell (.inl (by simp)) _) ⟨rfl, rfl, rfl⟩ ?_
  have := h1.head.set_ 5 (.int .i64 ((o + 1 : Nat) : Int))
  simpa using this
set_option maxRecDepth 100000 in
set_option maxHeartbeats 800000 in
theorem decode_bad {w : World} {T : List Nat} {r : Nat} {s : DSt} {o e : Nat} (h : Dc r s o e w T) (hT : Tabs w) (hf : TabFar T) (hG : Good s o) (ho : o ≤ 1000000) (c : UInt8) (ha : acc s c = none) (x : Nat) (hx : x = errOf s) :
    Calls Tryd.prog 22 #[.pointer (some ⟨r, 0, none⟩), .int .u8 (c.toNat : Int)] w fun e' w' => e' = .returned (.int .i64 x) ∧ Turned (Dc r s o e) w T w' := by
  have HA := Lib.hid (accept_c h hT hf hG ho c false (.inr ⟨ha, rfl, rfl⟩))
  have hp5 := hG.place
  clear h hT hf hG ha
  unfold errOf at hx
  by_cases hp : s.place = 5
  · rw [if_pos hp] at hx
    subst hx
    have HP := Lib.hid hp
    clear hp hp5
    go_enter Tryd.func22, Tryd.ntmps22
    go_wp2_with (go_at_call 31; refine HA.out.mono ?_; rintro e1 w1 ⟨rfl, hT1⟩; have HT1 := Lib.hid hT1; obtain ⟨A1, a1, S1, z1, Y1, y1, hb1⟩ := hT1.dec_head; have d0 := hb1.cell 0; clear hT1 hb1; rw [HP.out] at d0; simp only [List.getElem?_cons_zero] at d0)
    go_ret
    exact ⟨rfl, HT1.out⟩
  · rw [if_neg hp] at hx
    subst hx
    obtain ⟨pl, hpl⟩ : ∃ pl : Int, pl = (s.place : Int) := ⟨_, rfl⟩
    have hpn : (pl == 5) = false := by rw [beq_eq_false_iff_ne]; omega
    have HP := Lib.hid hpl
    clear hp hp5 hpl
    go_enter Tryd.func22, Tryd.ntmps22
    go_wp2_with (go_at_call 31; refine HA.out.mono ?_; rintro e1 w1 ⟨rfl, hT1⟩; have HT1 := Lib.hid hT1; obtain ⟨A1, a1, S1, z1, Y1, y1, hb1⟩ := hT1.dec_head; have d0 := hb1.cell 0; clear hT1 hb1; rw [← HP.out] at d0; simp only [List.getElem?_cons_zero] at d0)
    go_ret
    exact ⟨rfl, HT1.out⟩

theorem turned_join {Q : World → List Nat → Prop} {w w1 w2 : World} {T T1 : List Nat} (hk : ∀ k, k ∈ T1 → k ∈ T ∨ w.heap.size ≤ k) (hO : Only T w w1) (h : Turned Q w1 T1 w2) : Turned Q w T w2 := by
  obtain ⟨T2, h2, hk2, hO2⟩ := h
  refine ⟨T2, h2, fun k hk' => ?_, hO.join hO2 hk⟩
  rcases hk2 k hk' with h | h
  · exact hk k h
  · exact .inr (Nat.le_trans hO.size h)
/-- The error noted. -/
theorem turned_err {w w1 : World} {T : List Nat} {r : Nat} {s : DSt} {o e e' : Nat} (h : Turned (Dc r s o e) w T w1) : Turned (Dc r s o e') w T (w1.setCell ⟨r, 6, none⟩ (.int .i64 (e' : Int))) := by
  refine h.trans fun T1 h1 => ?_
  obtain ⟨A, a, S, z, Y, y, h1⟩ := h1
  refine dec_head h1 ((Only.refl _ w1).setCell (.inl (by simp)) _) ⟨rfl, rfl, rfl⟩ ?_
  have := h1.head.set_ 6 (.int .i64 (e' : Int))
  simpa using this

/-! ### Feed -/
set_option maxHeartbeats 400000 in
theorem feed_nil (w : World) (x : Value) :
    Calls Tryd.prog 8 #[.pointer none, x] w fun e w' => e = .returned (.int .i64 1) ∧ w = w' := by
  go_enter Tryd.func8, Tryd.ntmps8
  go_wp2
  go_ret
  exact ⟨rfl, rfl⟩
set_option maxRecDepth 100000 in
set_option maxHeartbeats 3200000 in
theorem feed_c {w : World} {T : List Nat} {r : Nat} {s s' : DSt} {o e o' e' : Nat} (h : Dc r s o e w T) (hT : Tabs w) (hf : TabFar T) (hG : Good s o) {B n c : Nat} {X : Option Addr} {b : List UInt8} (hb : Reads w B X n (vbs b)) (hB : B ≤ w.heap.size)
    (hX : 0 < n → ∀ ad, X = some ad → ad.block ∉ T) (hnc : n ≤ c) (hcm : c ≤ maxLen) (ho : o + n ≤ 1000000) (hfe : feedS s o e b = (s', o', e')) :
    Calls Tryd.prog 8 #[.pointer (some ⟨r, 0, none⟩), .slice X n c] w fun x w' => x = .returned (.int .i64 e') ∧ Turned (Dc r s' o' e') w T w' := by
  have hbl : b.length = n := by have := hb.1; rwa [vbs_length] at this
  have H := Lib.hid h
  have HT := Lib.hid hT
  have HF := Lib.hid hf
  have HBD := Lib.hid hb
  have HBL := Lib.hid hbl
  have HG := Lib.hid hG
  have HX := Lib.hid hX
  have HFE := Lib.hid hfe
  have hcm' := hcm
  unfold maxLen at hcm'
  clear h hT hf hb hbl hG hX hfe hcm
  go_enter Tryd.func8, Tryd.ntmps8
  go_wp2
  go_loopw [11] (fun si wr => ∃ (i : Nat) (s1 : DSt) (o1 e1 : Nat), i ≤ n ∧ si = .int .i64 i ∧ o1 ≤ o + i ∧ Hid (Turned (Dc r s1 o1 e1) w T wr) ∧ Hid (Good s1 o1) ∧ Hid (feedS s1 o1 e1 (b.drop i) = (s', o', e'))) (fun si _ => n - (intOf si).toNat)
  case atStart => exact ⟨0, s, o, e, Nat.zero_le _, rfl, Nat.le_refl _, Lib.hid (Turned.refl H.out), HG, HFE⟩
  case round =>
    obtain ⟨i, s1, o1, e1, hin, rfl, ho1, hT1, hG1, hF1⟩ := hrel
    obtain ⟨A1, a1, S1, z1, Y1, y1, hb1⟩ := hT1.out.dec_head
    have d6 := hb1.cell 6
    have f6 := hb1.free 6
    simp only [List.getElem?_cons_succ, List.getElem?_cons_zero] at d6
    clear hb1
    by_cases hlt : i < n
    · obtain ⟨g, q, rfl, hg, hc⟩ := HBD.out.plain (by omega)
      have hil : i < b.length := by rw [HBL.out]; exact hlt
      have hbn : g ∉ T := HX.out (by omega) _ rfl
      have hci : wr.cell? ⟨g, q + i, none⟩ = some (.int .u8 ((b[i]'hil).toNat : Int)) := by
        obtain ⟨T1, _, _, hO⟩ := hT1.out
        exact cell_only (hc i _ (by rw [vbs_getElem?, List.getElem?_eq_getElem hil]; rfl)) hO hbn
      have hdr : b.drop i = b[i] :: b.drop (i + 1) := List.drop_eq_getElem_cons hil
      generalize b[i]'hil = x at *
      clear hc
      have hFx : Hid (feedS s1 o1 e1 (x :: b.drop (i + 1)) = (s', o', e')) := Lib.hid (by rw [← hdr]; exact hF1.out)
      clear hF1 hdr hil hg hbn
      by_cases he : e1 = 0
      · subst he
        have hTw : Hid (Tabs wr) := Lib.hid (by obtain ⟨T1, _, _, hO⟩ := hT1.out; exact HT.out.only' hO HF.out)
        obtain ⟨T1, hD1, hk1, hO1⟩ := hT1.out
        have HFar := Lib.hid (HF.out.grown HT.out hk1)
        have HK1 := Lib.hid hk1
        have HO1 := Lib.hid hO1
        cases ha : acc s1 x with
        | none =>
          have HC := Lib.hid (decode_bad hD1 hTw.out HFar.out hG1.out (by omega) x ha _ rfl)
          have hFy : Hid ((s1, o1, errOf s1) = (s', o', e')) := Lib.hid (by rw [← hFx.out, feedS_none ha])
          have hne := errOf_ne s1
          generalize errOf s1 = ev at HC hFy hne
          clear ha hD1 hk1 hO1 hFx
          go_wp2_with (go_at_call 22; refine HC.out.mono ?_; rintro e2 w2 ⟨rfl, hT2⟩; have HT2 := Lib.hid hT2; obtain ⟨A2, a2, S2, z2, Y2, y2, hb2⟩ := hT2.dec_head; have t6 := hb2.cell 6; have g6 := hb2.free 6; clear hT2 hb2; simp only [List.getElem?_cons_succ, List.getElem?_cons_zero] at t6)
          go_roundw
          case rel =>
            exact ⟨i + 1, s1, o1, ev, by omega, by go_num, by omega, Lib.hid (turned_join HK1.out HO1.out (turned_err HT2.out)), hG1, Lib.hid (by rw [feedS_err hne]; exact hFy.out)⟩
          case measure => simp [intOf]; omega
        | some s2 =>
          have HC := Lib.hid (decode_ok hD1 hTw.out HFar.out hG1.out (by omega) x ha)
          have hFy : Hid (feedS s2 (o1 + 1) 0 (b.drop (i + 1)) = (s', o', e')) := Lib.hid (by rw [← hFx.out, feedS_some ha])
          have hG2 := Lib.hid (hG1.out.step ha)
          clear ha hD1 hk1 hO1 hFx
          go_wp2_with (go_at_call 22; refine HC.out.mono ?_; rintro e2 w2 ⟨rfl, hT2⟩; have HT2 := Lib.hid hT2; obtain ⟨A2, a2, S2, z2, Y2, y2, hb2⟩ := hT2.dec_head; have t6 := hb2.cell 6; have g6 := hb2.free 6; clear hT2 hb2; simp only [List.getElem?_cons_succ, List.getElem?_cons_zero] at t6)
          go_roundw
          case rel =>
            exact ⟨i + 1, s2, o1 + 1, 0, by omega, by go_num, by omega, Lib.hid (turned_join HK1.out HO1.out (turned_err HT2.out)), hG2, hFy⟩
          case measure => simp [intOf]; omega
      · have hne : ((e1 : Int) == 0) = false := by rw [beq_eq_false_iff_ne]; omega
        have hFy : Hid ((s1, o1, e1) = (s', o', e')) := Lib.hid (by rw [← hFx.out, feedS_err he])
        have hne2 : ((e1 : Int) != 0) = true := by rw [bne_iff_ne]; omega
        clear hFx
        go_wp2
        go_ret
        obtain ⟨rfl, h2⟩ := Prod.mk.inj hFy.out
        obtain ⟨rfl, rfl⟩ := Prod.mk.inj h2
        exact ⟨rfl, hT1.out⟩
    · obtain rfl : i = n := by omega
      have hFy : Hid ((s1, o1, e1) = (s', o', e')) := Lib.hid (by rw [← hF1.out, List.drop_of_length_le (by rw [HBL.out]; exact Nat.le_refl _), feedS])
      clear hF1
      go_wp2
      go_ret
      obtain ⟨rfl, h2⟩ := Prod.mk.inj hFy.out
      obtain ⟨rfl, rfl⟩ := Prod.mk.inj h2
      exact ⟨rfl, hT1.out⟩

/-! ### Payload, Sizes, Whole, Complete, Offset -/
set_option maxHeartbeats 400000 in
theorem payd_nil (w : World) :
    Calls Tryd.prog 9 #[.pointer none] w fun e w' => e = .returned (.slice none 0 0) ∧ w = w' := by
  go_enter Tryd.func9, Tryd.ntmps9
  go_wp2
  go_ret
  exact ⟨rfl, rfl⟩
set_option maxHeartbeats 400000 in
theorem sized_nil (w : World) :
    Calls Tryd.prog 10 #[.pointer none] w fun e w' => e = .returned (.slice none 0 0) ∧ w = w' := by
  go_enter Tryd.func10, Tryd.ntmps10
  go_wp2
  go_ret
  exact ⟨rfl, rfl⟩
set_option maxHeartbeats 400000 in
theorem whole_nil (w : World) :
    Calls Tryd.prog 11 #[.pointer none] w fun e w' => e = .returned (.bool false) ∧ w = w' := by
  go_enter Tryd.func11, Tryd.ntmps11
  go_wp2
  go_ret
  exact ⟨rfl, rfl⟩
set_option maxHeartbeats 400000 in
theorem complete_nil (w : World) :
    Calls Tryd.prog 12 #[.pointer none] w fun e w' => e = .returned (.bool false) ∧ w = w' := by
  go_enter Tryd.func12, Tryd.ntmps12
  go_wp2
  go_ret
  exact ⟨rfl, rfl⟩
set_option maxHeartbeats 400000 in
theorem offset_nil (w : World) :
    Calls Tryd.prog 13 #[.pointer none] w fun e w' => e = .returned (.int .i64 0) ∧ w = w' := by
  go_enter Tryd.func13, Tryd.ntmps13
  go_wp2
  go_ret
  exact ⟨rfl, rfl⟩
set_option maxHeartbeats 400000 in
theorem payd_c {w : World} {T : List Nat} {r : Nat} {s : DSt} {o e : Nat} (h : Dc r s o e w T) (hG : Good s o) (ho : o ≤ 1000000) (n : Nat) (hn : n = s.pay.length) :
    Calls Tryd.prog 9 #[.pointer (some ⟨r, 0, none⟩)] w fun x w' => ∃ G d, x = .returned (.slice G n d) ∧ RowAt w' 5 G n d (vbs s.pay) ∧ (∀ k, k ∈ rowT G → w.heap.size ≤ k) ∧ Only [] w w' := by
  obtain ⟨A, a, S, z, Y, y, h⟩ := h
  subst hn
  have c4 := h.head.cell 4
  have HC := Lib.hid (clone_c h.pay (by have := hG.bytes; omega))
  simp only [List.getElem?_cons_succ, List.getElem?_cons_zero] at c4
  generalize s.pay.length = n at *
  clear h hG
  go_enter Tryd.func9, Tryd.ntmps9
  go_wp2_with (go_at_call 23; refine HC.out.mono ?_; rintro e w' ⟨G, d, rfl, h1, h2, h3⟩; have H1 := Lib.hid h1; have H2 := Lib.hid h2; have H3 := Lib.hid h3; clear h1 h2 h3)
  go_ret
  exact ⟨G, d, rfl, H1.out, H2.out, H3.out⟩

/-! ### slices.Clone of ints, Sizes -/
set_option maxRecDepth 100000 in
set_option maxHeartbeats 400000 in
theorem clonei_none (w : World) :
    Calls Tryd.prog 24 #[.slice none 0 0] w fun e w' => e = .returned (.slice none 0 0) ∧ w = w' := by
  have he : ∀ w : World, (binOp .eql 28 (.slice none 0 0) (.slice none 0 0)).run Tryd.prog w = .ok (.bool true) w := fun _ => rfl
  go_enter Tryd.func24, Tryd.ntmps24
  go_wp2
  go_ret
  exact ⟨rfl, rfl⟩
set_option maxRecDepth 100000 in
set_option maxHeartbeats 400000 in
theorem clonei_some {w : World} {B : Nat} {g : Addr} {n c : Nat} {l : List Int} (hr : Reads w B (some g) n (vis l)) (hB : B ≤ w.heap.size) (hn : n ≤ 1000000) :
    Calls Tryd.prog 24 #[.slice (some g) n c] w fun e w' => ∃ G d, e = .returned (.slice G n d) ∧ RowAt w' 3 G n d (vis l) ∧ (∀ k, k ∈ rowT G → w.heap.size ≤ k) ∧ Only [] w w' := by
  obtain ⟨i0, hi, hz0, hz1, hz2⟩ := info_parts info_int
  have hrow := Lib.hid (RowAt.of_blk (Blk.new w 3 []) (by simp))
  have hsrc := Lib.hid (hr.only' ((Only.refl [] w).alloc (.cells #[] 3)) hB (by simp))
  have hb1 := Lib.hid (show 0 + n ≤ maxLen by unfold maxLen; omega)
  have hb2 := Lib.hid (show (0 + n) * 8 ≤ 140737488355328 by omega)
  clear hr
  have he : ∀ w : World, (binOp .eql 28 (.slice (some g) n c) (.slice none 0 0)).run Tryd.prog w = .ok (.bool false) w := fun _ => rfl
  go_enter Tryd.func24, Tryd.ntmps24
  go_wp2_with (first | (with_reducible refine wp_rowAppend rfl (.tmp 5) (.tmp 6) 28 rfl 3 i0 _ 8 Tryd.underlying28 hi hz0 hz1 hz2 rfl _ 0 0 [] rfl hrow.out B (some g) n c (vis l) rfl hsrc.out (vis_one _) hb1.out hb2.out n (Nat.zero_add n).symm ?_; intro A2 c2 w2 HR2 hO2 HK2))
  go_ret
  refine ⟨A2, c2, rfl, by simpa using HR2.out, fun k hk => ?_, ?_⟩
  · rcases HK2.out k hk with h | h
    · simp [rowT_some] at h; omega
    · simp at h; omega
  · exact ((Only.refl [] w).alloc _).join hO2 (fun k hk => .inr (by simp [rowT_some] at hk; omega))
theorem clonei_c {w : World} {A : Option Addr} {n c : Nat} {l : List Int} (h : RowAt w 3 A n c (vis l)) (hn : n ≤ 1000000) :
    Calls Tryd.prog 24 #[.slice A n c] w fun e w' => ∃ G d, e = .returned (.slice G n d) ∧ RowAt w' 3 G n d (vis l) ∧ (∀ k, k ∈ rowT G → w.heap.size ≤ k) ∧ Only [] w w' := by
  cases A with
  | none =>
    have hc := h.none_ rfl
    have hn0 : n = 0 := by have := h.le; omega
    subst hc hn0
    refine (clonei_none w).mono ?_
    rintro e w' ⟨rfl, rfl⟩
    exact ⟨none, 0, rfl, h, by simp [rowT], Only.refl _ _⟩
  | some g => exact clonei_some h.reads (Nat.le_refl _) hn
set_option maxHeartbeats 400000 in
theorem sized_c {w : World} {T : List Nat} {r : Nat} {s : DSt} {o e : Nat} (h : Dc r s o e w T) (hG : Good s o) (ho : o ≤ 1000000) (n : Nat) (hn : n = s.sizes.length) :
    Calls Tryd.prog 10 #[.pointer (some ⟨r, 0, none⟩)] w fun x w' => ∃ G d, x = .returned (.slice G n d) ∧ RowAt w' 3 G n d (vis (nats s.sizes)) ∧ (∀ k, k ∈ rowT G → w.heap.size ≤ k) ∧ Only [] w w' := by
  obtain ⟨A, a, S, z, Y, y, h⟩ := h
  subst hn
  have c3 := h.head.cell 3
  have HC := Lib.hid (clonei_c h.sizes (by have := hG.count; omega))
  simp only [List.getElem?_cons_succ, List.getElem?_cons_zero] at c3
  generalize s.sizes.length = n at *
  clear h hG
  go_enter Tryd.func10, Tryd.ntmps10
  go_wp2_with (go_at_call 24; refine HC.out.mono ?_; rintro e w' ⟨G, d, rfl, h1, h2, h3⟩; have H1 := Lib.hid h1; have H2 := Lib.hid h2; have H3 := Lib.hid h3; clear h1 h2 h3)
  go_ret
  exact ⟨G, d, rfl, H1.out, H2.out, H3.out⟩
set_option maxHeartbeats 800000 in
theorem whole_c {w : World} {T : List Nat} {r : Nat} {s : DSt} {o e : Nat} (h : Dc r s o e w T) (b : Bool) (hb : b = s.whole) :
    Calls Tryd.prog 11 #[.pointer (some ⟨r, 0, none⟩)] w fun x w' => x = .returned (.bool b) ∧ w = w' := by
  obtain ⟨A, a, S, z, Y, y, h⟩ := h
  have c0 := h.head.cell 0
  simp only [List.getElem?_cons_zero] at c0
  unfold DSt.whole at hb
  obtain ⟨p, hp⟩ : ∃ p, p = s.place := ⟨_, rfl⟩
  rw [← hp] at c0 hb
  clear h hp
  by_cases h0 : p = 0
  · subst h0
    have hbt : b = true := by rw [hb]; rfl
    subst hbt
    clear hb
    go_enter Tryd.func11, Tryd.ntmps11
    go_wp2
    go_ret
    exact ⟨rfl, rfl⟩
  · have h00 : ((p : Int) == 0) = false := by rw [beq_eq_false_iff_ne]; omega
    have hbv : b = ((p : Int) == 5) := by
      rw [hb, Bool.eq_iff_iff]
      simp [h0]
      omega
    subst hbv
    clear hb
    go_enter Tryd.func11, Tryd.ntmps11
    go_wp2
    go_ret
    exact ⟨rfl, rfl⟩
set_option maxHeartbeats 800000 in
theorem complete_c {w : World} {T : List Nat} {r : Nat} {s : DSt} {o e : Nat} (h : Dc r s o e w T) (b : Bool) (hb : b = s.complete) :
    Calls Tryd.prog 12 #[.pointer (some ⟨r, 0, none⟩)] w fun x w' => x = .returned (.bool b) ∧ w = w' := by
  obtain ⟨A, a, S, z, Y, y, h⟩ := h
  have c0 := h.head.cell 0
  simp only [List.getElem?_cons_zero] at c0
  unfold DSt.complete at hb
  obtain ⟨p, hp⟩ : ∃ p, p = s.place := ⟨_, rfl⟩
  rw [← hp] at c0 hb
  clear h hp
  have hbv : b = ((p : Int) == 5) := by
    rw [hb, Bool.eq_iff_iff]
    simp
    omega
  subst hbv
  clear hb
  go_enter Tryd.func12, Tryd.ntmps12
  go_wp2
  go_ret
  exact ⟨rfl, rfl⟩
set_option maxHeartbeats 400000 in
theorem offset_c {w : World} {T : List Nat} {r : Nat} {s : DSt} {o e : Nat} (h : Dc r s o e w T) :
    Calls Tryd.prog 13 #[.pointer (some ⟨r, 0, none⟩)] w fun x w' => x = .returned (.int .i64 o) ∧ w = w' := by
  obtain ⟨A, a, S, z, Y, y, h⟩ := h
  have c5 := h.head.cell 5
  simp only [List.getElem?_cons_succ, List.getElem?_cons_zero] at c5
  clear h
  go_enter Tryd.func13, Tryd.ntmps13
  go_wp2
  go_ret
  exact ⟨rfl, rfl⟩
end Go.Proofs.YtfchkaoifbcgkaaDoor
