/-
  Contract: alive of layer 14.
-/
import Derived.Test.YtkipmaoeejdncaaAv14
import Derived.Test.YtkipmaoeejdncaaPg14
namespace Go.Proofs.Ytkipmaoeejdncaa
open Go.RowKit Go.BigFrame NT
set_option linter.unusedVariables false
set_option linter.unusedSimpArgs false

/-- What a row of parsed nodes is like. -/
theorem PdP.row {l : List NT} {w : World} {e : Ending} {w' : World} (h : PdP l w e w') : Bel w w' ∧ ∃ A c m, e = .returned (.slice A m.length c) ∧ Row w' (Lt w') A c m ∧ ers m = l := by
  obtain ⟨hb, A, c, m, h1, h2, h3⟩ := h
  exact ⟨hb, A, c, m, h1, h2.lt, h3⟩
theorem tots_of {m l : List NT} (h : ers m = l) (hl : Parsed l) : tots m ≤ 5000 := by have := hl.tots; rwa [← h, tots_ers] at this
theorem av_eq {w : World} {A : Option Addr} {c : Nat} (h : Strs w A [fB, gB]) : Calls Try.prog 16 #[.slice A 2 c, .slice (some ⟨w.heap.size, 0, none⟩) 2 2] (w.alloc (.cells #[.string ⟨#[102]⟩, .string ⟨#[103]⟩] 9)) fun e w' => e = .returned (.bool true) ∧ Bel w w' := by
  have hb := Bel.alloc w (.cells #[.string ⟨#[102]⟩, .string ⟨#[103]⟩] 9)
  refine (equalS14_c (h.bel hb) (strs_blk (l := [fB, gB]) (Blk.new w 9 [.string ⟨#[102]⟩, .string ⟨#[103]⟩])) c 2 (by decide) (by decide)).mono ?_
  rintro e w' ⟨rfl, hb2⟩
  exact ⟨by rw [decide_eq_true rfl], hb.trans hb2⟩
theorem main_one {m : List NT} (h : ers m = avN) : (mainN m).length = 1 := by
  have h1 : (mainN (ers m)).length = (mainN m).length := by rw [mainN_ers, List.length_map]
  rw [← h1, h, av_main]
  rfl
set_option maxRecDepth 100000 in
set_option maxHeartbeats 3200000 in
theorem alive_c (w : World) : Calls Try.prog 8 #[] w fun e w' => e = .returned (.bool true) ∧ Bel w w' := by
  have HP := Lib.hid (fun W => parsed_ok avS (by decide) _ av_lex _ av_par W)
  unfold avS at HP
  go_enter Try.func8, Try.ntmps8
  go_wp2_with (first
    | (go_at_call 5; ((with_reducible refine (HP.out _).mono ?_); rintro e w1 hp; obtain ⟨hb, A, c, m, rfl, hr, he⟩ := hp.row; have HB1 := Lib.hid hb; have HR1 := Lib.hid hr; have HE1 := Lib.hid he; have HT1 := Lib.hid (tots_of he av_parsed); clear hp hb hr he))
    | (go_at_call 13; ((with_reducible refine (dcheck_c HR1.out HT1.out).mono ?_); rintro e w2 ⟨hb, rfl⟩; rw [← checkN_ers, HE1.out, av_check]; have HB2 := Lib.hid (HB1.out.trans hb); have HR2 := Lib.hid (HR1.out.bel hb); clear hb))
    | (go_at_call 11; ((with_reducible refine (dreach_c HR2.out HT1.out).mono ?_); rintro e w3 ⟨R, hR, hb, A3, c3, rfl, _, _, hS⟩; have hR2 := av_reach (by have := hR.to_ers; rwa [HE1.out] at this); subst hR2; have HB3 := Lib.hid (HB2.out.trans hb); have HR3 := Lib.hid (HR2.out.bel hb); have HS3 := Lib.hid hS; have HEQ := Lib.hid (av_eq (c := c3) HS3.out); clear hb hS hR))
    | (go_at_call 16; ((with_reducible refine HEQ.out.mono ?_); rintro e w4 ⟨rfl, hb2⟩; have HB4 := Lib.hid (HB3.out.trans hb2); have HR4 := Lib.hid (HR3.out.bel hb2); clear hb2))
    | (go_at_call 17; ((with_reducible refine (dmain_c HR4.out HT1.out).mono ?_); rintro e w5 ⟨hb, B5, d5, rfl⟩; rw [main_one HE1.out]; have HB5 := Lib.hid (HB4.out.trans hb); clear hb)))
  go_ret
  exact ⟨rfl, HB5.out⟩
end Go.Proofs.Ytkipmaoeejdncaa
