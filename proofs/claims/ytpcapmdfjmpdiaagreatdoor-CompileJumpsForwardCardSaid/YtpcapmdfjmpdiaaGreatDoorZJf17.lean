/-
  The law CompileJumpsForward, walked.
-/
import Derived.Test.YtpcapmdfjmpdiaaGreatDoorZPs17
import Derived.Test.YtpcapmdfjmpdiaaGreatDoorZJl17
namespace Go.Proofs.YtpcapmdfjmpdiaaGreatDoor
open Go.RowKit Go.BigFrame NT
set_option linter.unusedVariables false
set_option linter.unusedSimpArgs false
set_option maxRecDepth 100000

/-- What an instruction's jump is like. -/
structure JfX (C : List IN) (n i : Nat) (x : IN) : Prop where
  two : x.o = 2 ∨ x.o = 3 → i < x.t ∧ x.t < n
  five : x.o = 5 → 1 ≤ x.t ∧ x.t ≤ i ∧ ∃ j y, j + 1 = x.t ∧ C[j]? = some y ∧ y.o = 4 ∧ y.t = i + 1
  six : x.o = 6 → 1 ≤ x.t ∧ x.t < n ∧ ∃ y, C[x.t - 1]? = some y ∧ (y.o = 9 ∨ y.o = 7)
theorem jf_of {l : List NT} {es : List Nat} {a : Int} (hc : checkN l = (a, 0)) {i : Nat} {x : IN} (h : (codeW l es)[i]? = some x) : JfX (codeW l es) (codeW l es).length i x := by
  refine ⟨fun ho => ?_, fun ho => ?_, fun ho => ?_⟩
  · exact codeW_in h (by omega)
  · obtain ⟨_, h2⟩ := codeW_jok l es i x h
    obtain ⟨h3, h4, j, y, h5, h6, h7, h8⟩ := h2 ho
    exact ⟨by omega, by omega, j, y, by omega, h6, h7, by omega⟩
  · exact codeW_target hc (List.mem_of_getElem? h) ho
set_option maxHeartbeats 12800000 in
theorem jfLaw (s : ByteArray) (w : World) (hT : MX w) (hs : s.size ≤ maxLen) :
    Calls Tryz.prog 8 #[.string s] w fun e w' => e = .returned (.bool true) ∧ Below w.heap.size w w' := by
  have hs2 : (s.size : Int) ≤ 9223372036854775807 := by have := hs; unfold maxLen at this; omega
  have HT := Lib.hid hT
  have HAL := Lib.hid (fun (W : World) (hb : Bel w W) => alive_c W (hT.bel hb))
  by_cases hbig : 5000 < s.size
  · have hi : (5000 : Int) < (s.size : Int) := by omega
    clear hs hT
    go_enter Tryz.func8, Tryz.ntmps8
    go_wp2_with (go_at_call 9; ((with_reducible refine (HAL.out _ (Bel.refl _)).mono ?_); rintro e w1 ⟨rfl, hb⟩; have HB1 := Lib.hid hb; clear hb))
    go_ret
    exact ⟨rfl, HB1.out⟩
  have hi : ¬ (5000 : Int) < (s.size : Int) := by omega
  have hs5 : s.size ≤ 5000 := by omega
  obtain ⟨r, hlo, _⟩ := lexOf_total s
  obtain ⟨hne, hpa⟩ := par17 hs5 hlo
  have HCO := Lib.hid (pcompile_c s hs5 hlo w hT)
  obtain ⟨C, hC⟩ : ∃ C, C = cmpR (parR r) := ⟨_, rfl⟩
  rw [← hC] at HCO
  obtain ⟨c, a, k⟩ := C
  by_cases hk : k = 0
  · subst hk
    obtain ⟨l, hl, hcn⟩ := cmpR_ok hC.symm hne
    have hpl := hpa l hl
    obtain ⟨es, rfl, rfl, ⟨b, hck⟩, hes, _⟩ := codeN_ok hpl hcn
    obtain ⟨C, hCC⟩ : ∃ C, C = codeW l es := ⟨_, rfl⟩
    obtain ⟨n, hn⟩ : ∃ n, n = C.length := ⟨_, rfl⟩
    have hn9 : n ≤ 31000 := by rw [hn, hCC]; exact codeW_few hpl es
    have HJ : Hid (∀ i x, C[i]? = some x → JfX C n i x) := Lib.hid (fun i x hx => by rw [hn, hCC]; rw [hCC] at hx; exact jf_of hck hx)
    have HN := Lib.hid hn
    unfold CdP at HCO
    dsimp only at HCO
    rw [← hCC, ← hn] at HCO
    clear hlo hne hpa hC hl hcn hpl hes hck hn hT hs hCC
    go_enter Tryz.func8, Tryz.ntmps8
    go_wp2_with (go_at_call 10; ((with_reducible refine (HCO.out).mono ?_); rintro e w1 ⟨hb, A1, c1, rfl, hI⟩; have HB1 := Lib.hid hb; have HX1 := Lib.hid (Xr.of_krow hI.out.1); clear hb hI))
    go_loopw [23] (fun s23 wr => ∃ i : Nat, i ≤ n ∧ s23 = .int .i64 i ∧ Hid (Bel w1 wr)) (fun s23 _ => n - (intOf s23).toNat)
    case atStart => exact ⟨0, Nat.zero_le _, rfl, Lib.hid (Bel.refl _)⟩
    case round =>
      obtain ⟨i, hin, rfl, HB⟩ := hrel
      by_cases hlt : i < n
      · have hx := List.getElem?_eq_getElem (l := C) (i := i) (by have := HN.out; omega)
        generalize C[i]'(by have := HN.out; omega) = x at hx
        have hj := HJ.out i x hx
        have HCX : Hid (∀ (j : Nat) (y : IN), C[j]? = some y → ∃ g o, A1 = some ⟨g, o, none⟩ ∧ ∀ W, Bel wr W → ∀ z u, y.cs[z]? = some u → W.cell? ⟨g, o + j * 6 + z, none⟩ = some u) := Lib.hid (fun j y hy => by
          obtain ⟨g, o, hA, hc⟩ := HX1.out.2 j y.x (by rw [List.getElem?_map, hy]; rfl)
          exact ⟨g, o, hA, fun W hW z u hu => hc W (HB.out.trans hW) z u hu⟩)
        obtain ⟨g, o, rfl, hc⟩ := HCX.out i x hx
        have b0 := hc wr (Bel.refl _) 0 _ rfl
        have b1 := hc wr (Bel.refl _) 1 _ rfl
        have b2 := hc wr (Bel.refl _) 2 _ rfl
        have b3 := hc wr (Bel.refl _) 3 _ rfl
        have b4 := hc wr (Bel.refl _) 4 _ rfl
        have b5 := hc wr (Bel.refl _) 5 _ rfl
        rw [Nat.add_zero] at b0
        have HBN := Lib.hid (HB.out.trans (Bel.alloc wr (.cells #[.int .i64 (x.o : Nat), .string x.s, .string x.p, .bool x.h, .int .i64 (x.e : Nat), .int .i64 (x.t : Nat)] 31)))
        obtain ⟨xo, xs, xp, xh, xe, xt⟩ := x
        obtain ⟨h2, h5, h6⟩ := hj
        dsimp only at h2 h5 h6 b0 b1 b2 b3 b4 b5 HBN
        clear hc
        by_cases k2 : xo = 2 ∨ xo = 3
        · obtain ⟨h3, h4⟩ := h2 k2
          have i3 : ¬ (xt : Int) ≤ (i : Int) := by omega
          have i4 : ¬ (n : Int) ≤ (xt : Int) := by omega
          clear h2 h5 h6 hx h3 h4 HCX
          rcases k2 with rfl | rfl
          all_goals
            go_wp2_with fail
            go_roundw
            case rel => exact ⟨i + 1, by omega, by go_num, HBN⟩
            case measure => simp [intOf]; omega
        have q2 : ((xo : Int) == 2) = false := by rw [beq_eq_false_iff_ne]; omega
        have q3 : ((xo : Int) == 3) = false := by rw [beq_eq_false_iff_ne]; omega
        by_cases k5 : xo = 5
        · obtain ⟨h3, h4, j, y, hj, hy, yo, yt⟩ := h5 k5
          obtain ⟨g', o', hA', hc'⟩ := HCX.out j y hy
          injection hA' with hA'
          injection hA' with e1 e2
          subst e1 e2
          have hjn : j < n := by rw [HN.out]; exact (List.getElem?_eq_some_iff.1 hy).1
          have y0 := fun o => hc' _ (Bel.alloc wr o) 0 _ rfl
          have y5 := fun o => hc' _ (Bel.alloc wr o) 5 _ rfl
          obtain ⟨T, hTT⟩ : ∃ T, T = i + 1 := ⟨_, rfl⟩
          rw [← hTT] at yt
          obtain ⟨yo', ys, yp, yh, ye, yt'⟩ := y
          dsimp only at yo yt y0 y5
          subst yo yt
          simp only [Nat.add_zero] at y0
          have hjt : (xt : Int) - 1 = (j : Int) := by omega
          have hjw : IntKind.i64.wrap ((xt : Int) - 1) = (j : Int) := (IntWalk.i64_in _ (by omega)).trans hjt
          have hiw : IntKind.i64.wrap ((i : Int) + 1) = (yt' : Int) := (IntWalk.i64_in _ (by omega)).trans (by omega)
          have hiw2 : (i : Int) + 1 = (yt' : Int) := by omega
          have HTT := Lib.hid hTT
          have i1 : ¬ (xt : Int) < 1 := by omega
          have i2 : ¬ (i : Int) < (xt : Int) := by omega
          clear h2 h5 h6 hx h3 h4 HCX hc' hy hj k2 hTT
          subst k5
          go_wp2_with fail
          go_roundw
          case rel => exact ⟨yt', by have := HTT.out; omega, by go_num, HBN⟩
          case measure => simp [intOf]; omega
        have q5 : ((xo : Int) == 5) = false := by rw [beq_eq_false_iff_ne]; omega
        by_cases k6 : xo = 6
        · obtain ⟨h3, h4, y, hy, yo⟩ := h6 k6
          obtain ⟨j, hj⟩ : ∃ j, j = xt - 1 := ⟨_, rfl⟩
          rw [← hj] at hy
          obtain ⟨g', o', hA', hc'⟩ := HCX.out j y hy
          injection hA' with hA'
          injection hA' with e1 e2
          subst e1 e2
          have hjn : j < n := by rw [HN.out]; exact (List.getElem?_eq_some_iff.1 hy).1
          have y0 := fun o => hc' _ (Bel.alloc wr o) 0 _ rfl
          simp only [Nat.add_zero] at y0
          have hjt : (xt : Int) - 1 = (j : Int) := by omega
          have hjw : IntKind.i64.wrap ((xt : Int) - 1) = (j : Int) := (IntWalk.i64_in _ (by omega)).trans hjt
          have i1 : ¬ (xt : Int) < 1 := by omega
          have i4 : ¬ (n : Int) ≤ (xt : Int) := by omega
          obtain ⟨yo', ys, yp, yh, ye, yt⟩ := y
          dsimp only at yo y0
          clear h2 h5 h6 hx h3 h4 HCX hc' hy hj k2
          subst k6
          rcases yo with rfl | rfl
          all_goals
            go_wp2_with fail
            go_roundw
            case rel => exact ⟨i + 1, by omega, by go_num, HBN⟩
            case measure => simp [intOf]; omega
        · have q6 : ((xo : Int) == 6) = false := by rw [beq_eq_false_iff_ne]; omega
          clear h2 h5 h6 hx HCX k2 k5 k6
          go_wp2_with fail
          go_roundw
          case rel => exact ⟨i + 1, by omega, by go_num, HBN⟩
          case measure => simp [intOf]; omega
      · obtain rfl : i = n := by omega
        have HBF := Lib.hid (HB1.out.trans HB.out)
        go_wp2_with (go_at_call 9; ((with_reducible refine (HAL.out _ HBF.out).mono ?_); rintro e w2 ⟨rfl, hb⟩; have HB2 := Lib.hid (HBF.out.trans hb); clear hb))
        go_ret
        exact ⟨rfl, HB2.out⟩
  · have hk1 : ((k : Int) != 0) = true := bne_iff_ne.2 (by omega)
    clear hlo hne hpa hC hT hs hk
    go_enter Tryz.func8, Tryz.ntmps8
    go_wp2_with (first
      | (go_at_call 10; ((with_reducible refine (HCO.out).mono ?_); rintro e w1 ⟨hb, A1, c1, rfl, hI⟩; have HB1 := Lib.hid hb; clear hb hI))
      | (go_at_call 9; ((with_reducible refine (HAL.out _ HB1.out).mono ?_); rintro e w2 ⟨rfl, hb⟩; have HB2 := Lib.hid (HB1.out.trans hb); clear hb)))
    go_ret
    exact ⟨rfl, HB2.out⟩
end Go.Proofs.YtpcapmdfjmpdiaaGreatDoor
