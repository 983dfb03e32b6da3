/-
  The program of layer 17: check, an instruction.
  The program of layer 17: Compile; Check.
  From the listed variables of a row to the one table that the walks read (the operands of the opcodes, second of the list).
-/
import Derived.Test.YtpcapmdfjmpdiaaGreatDoorZHf17
import Derived.Test.YtpcapmdfjmpdiaaGreatDoorZPc17
import Derived.Test.YtpcapmdfjmpdiaaGreatDoorZPb17
import Derived.Test.YtpcapmdfjmpdiaaGreatDoorRows
import Derived.Lib.LaidTab
import Derived.Lib.LaidU8
namespace Go.Proofs.YtpcapmdfjmpdiaaGreatDoor
open Go.RowKit Go.BigFrame NT
set_option linter.unusedVariables false
set_option linter.unusedSimpArgs false
set_option maxRecDepth 100000

theorem vsplit2 (p : ByteArray) (hp : p.size < 4294967281) : ∃ (l : Nat) (k : Int), (k = if (pathOf p).isNone = true then 11 else 0) ∧ ∀ W, MX W → Calls Tryz.prog 49 #[.string p] W fun e w' => Bel W w' ∧ ∃ A c, e = .returned (.tuple #[.slice A l c, .int .i64 k]) := by
  cases hq : pathOf p with
  | none =>
    refine ⟨0, 11, rfl, fun W hM => (split_c p W hM hp).mono ?_⟩
    rintro e w' ⟨hb, hm⟩
    rw [hq] at hm
    exact ⟨hb, none, 0, hm⟩
  | some l =>
    refine ⟨l.length, 0, rfl, fun W hM => (split_c p W hM hp).mono ?_⟩
    rintro e w' ⟨hb, hm⟩
    rw [hq] at hm
    obtain ⟨A, c, he, _⟩ := hm
    exact ⟨hb, A, c, he⟩
abbrev PkC (x : XI) (i n : Nat) (w : World) : Prop := Calls Tryz.prog 23 #[.agg #[.int .i64 x.o, .string x.s, .string x.p, .bool x.h, .int .i64 x.e, .int .i64 x.t], .int .i64 (i : Nat), .int .i64 (n : Nat)] w fun y w' => y = .returned (.int .i64 (oneC x i n : Nat)) ∧ Bel w w'
theorem cells6_p17 {w : World} {g : Nat} {T : TypeId} {a0 a1 a2 a3 a4 a5 : Value} (h : Blk w g T [a0, a1, a2, a3, a4, a5]) :
    w.cell? ⟨g, 0, none⟩ = some a0 ∧ w.cell? ⟨g, 1, none⟩ = some a1 ∧ w.cell? ⟨g, 2, none⟩ = some a2 ∧ w.cell? ⟨g, 3, none⟩ = some a3 ∧ w.cell? ⟨g, 4, none⟩ = some a4 ∧ w.cell? ⟨g, 5, none⟩ = some a5 := ⟨h.cell 0, h.cell 1, h.cell 2, h.cell 3, h.cell 4, h.cell 5⟩
set_option maxHeartbeats 6400000 in
theorem pk_out (x : XI) (i n : Nat) (w : World) (h : x.o < 0 ∨ 9 < x.o) : PkC x i n w := by
  obtain ⟨k, s, p, hh, e, t⟩ := x
  unfold PkC
  dsimp only at h ⊢
  have hR : oneC ⟨k, s, p, hh, e, t⟩ i n = 5 := by unfold oneC; rw [if_pos h]
  rw [hR]
  clear hR
  by_cases h0 : k < 0
  · clear h
    go_enter Tryz.func23, Tryz.ntmps23
    go_wp2_with fail
    go_ret
    exact ⟨rfl, Bel.alloc _ _⟩
  · have h9 : (10 : Int) ≤ k := by omega
    clear h
    go_enter Tryz.func23, Tryz.ntmps23
    go_wp2_with fail
    go_ret
    exact ⟨rfl, Bel.alloc _ _⟩
set_option maxHeartbeats 6400000 in
theorem pk_shape (k : Nat) (hk : k < 10) (s p : ByteArray) (hh : Bool) (e t : Int) (i n : Nat) (w : World) (hT : TabO w) (hs : ¬ shapeX ⟨(k : Nat), s, p, hh, e, t⟩) : PkC ⟨(k : Nat), s, p, hh, e, t⟩ i n w := by
  unfold PkC
  have hR : oneC ⟨(k : Nat), s, p, hh, e, t⟩ i n = 5 := by
    unfold oneC
    rw [if_neg (show ¬ (((k : Nat) : Int) < 0 ∨ 9 < ((k : Nat) : Int)) by omega), if_pos hs]
  have hf : foB k ⟨(k : Nat), s, p, hh, e, t⟩ = true := by
    cases hq : foB k ⟨(k : Nat), s, p, hh, e, t⟩ with
    | true => rfl
    | false => exact absurd ((foB_shape (x := ⟨(k : Nat), s, p, hh, e, t⟩) rfl).1 hq) hs
  rw [hR]
  have HF := Lib.hid (fun W (h : TabO W) => hfo_c k hk s p hh e t W h)
  have HT := Lib.hid (hT.bel (Bel.alloc w (.cells #[.int .i64 (k : Nat), .string s, .string p, .bool hh, .int .i64 e, .int .i64 t] 31)))
  rw [hf] at HF
  have h0 : ¬ (k : Int) < 0 := by omega
  have h9 : ¬ (10 : Int) ≤ (k : Int) := by omega
  clear hR hf hs hT
  dsimp only
  go_enter Tryz.func23, Tryz.ntmps23
  go_wp2_with (go_at_call 48; ((with_reducible refine (HF.out _ HT.out).mono ?_); rintro y w2 ⟨rfl, hb⟩; have HB2 := Lib.hid ((Bel.alloc w _).trans hb); clear hb))
  go_ret
  exact ⟨rfl, HB2.out⟩
set_option maxHeartbeats 12800000 in
theorem pk_main (k : Nat) (hk : k < 10) (s p : ByteArray) (hh : Bool) (e t : Int) (i n : Nat) (hn : 1 ≤ n) (w : World) (hT : TabO w) (hM : MX w) (hp : p.size < 4294967281) (hs : shapeX ⟨(k : Nat), s, p, hh, e, t⟩) : PkC ⟨(k : Nat), s, p, hh, e, t⟩ i n w := by
  unfold PkC
  obtain ⟨l, ks, hks, hsp⟩ := vsplit2 p hp
  have HSP := Lib.hid hsp
  have hf : foB k ⟨(k : Nat), s, p, hh, e, t⟩ = false := (foB_shape (x := ⟨(k : Nat), s, p, hh, e, t⟩) rfl).2 hs
  obtain ⟨R, hR⟩ : ∃ R, R = oneC ⟨(k : Nat), s, p, hh, e, t⟩ i n := ⟨_, rfl⟩
  rw [← hR]
  have ht0 : ¬ (2 ≤ k ∧ k ≤ 6) → t = 0 := fun h => by
    have h6 := hs.2.2.2.2.2
    by_cases ht : t = 0
    · exact ht
    · have := h6 ht
      unfold hasT at this
      exact absurd (by dsimp only at this; omega) h
  have hRR : (ks = 11 ∧ R = 11) ∨ (ks = 0 ∧ (((k = 1 ∧ (e < 0 ∨ 4 < e)) ∧ R = 2) ∨ (¬ (k = 1 ∧ (e < 0 ∨ 4 < e)) ∧ ((2 ≤ k ∧ k ≤ 6) ∧ (t < 0 ∨ (n : Int) ≤ t ∨ (k ≤ 4 ∧ t ≤ (i : Int)) ∨ (k = 5 ∧ (i : Int) < t))) ∧ R = 3) ∨ (¬ (k = 1 ∧ (e < 0 ∨ 4 < e)) ∧ ¬ ((2 ≤ k ∧ k ≤ 6) ∧ (t < 0 ∨ (n : Int) ≤ t ∨ (k ≤ 4 ∧ t ≤ (i : Int)) ∨ (k = 5 ∧ (i : Int) < t))) ∧ R = 0))) := by
    unfold oneC at hR
    rw [if_neg (show ¬ (((k : Nat) : Int) < 0 ∨ 9 < ((k : Nat) : Int)) by omega), if_neg (by simpa using hs)] at hR
    unfold hasT at hR
    dsimp only at hR
    by_cases hq : (pathOf p).isNone = true
    · rw [if_pos hq] at hR hks
      exact .inl ⟨hks, hR⟩
    · rw [if_neg hq] at hR hks
      refine .inr ⟨hks, ?_⟩
      split at hR
      · exact .inl ⟨by omega, hR⟩
      split at hR
      · exact .inr (.inr ⟨by omega, by omega, hR⟩)
      split at hR
      · exact .inr (.inl ⟨by omega, by omega, hR⟩)
      · exact .inr (.inr ⟨by omega, by omega, hR⟩)
  have hcase : (k = 1 ∧ tE k = true ∧ tT k = 0) ∨ ((k = 2 ∨ k = 3 ∨ k = 4) ∧ tE k = false ∧ tT k = 2) ∨ (k = 5 ∧ tE k = false ∧ tT k = 3) ∨ (k = 6 ∧ tE k = false ∧ tT k = 1) ∨ ((k = 0 ∨ k = 7 ∨ k = 8 ∨ k = 9) ∧ tE k = false ∧ tT k = 0) := by
    have : k = 0 ∨ k = 1 ∨ k = 2 ∨ k = 3 ∨ k = 4 ∨ k = 5 ∨ k = 6 ∨ k = 7 ∨ k = 8 ∨ k = 9 := by omega
    rcases this with rfl | rfl | rfl | rfl | rfl | rfl | rfl | rfl | rfl | rfl <;> decide
  have HF := Lib.hid (fun W (h : TabO W) => hfo_c k hk s p hh e t W h)
  rw [hf] at HF
  have HT := Lib.hid (hT.bel (Bel.alloc w (.cells #[.int .i64 (k : Nat), .string s, .string p, .bool hh, .int .i64 e, .int .i64 t] 31)))
  have HM := Lib.hid (hM.bel (Bel.alloc w (.cells #[.int .i64 (k : Nat), .string s, .string p, .bool hh, .int .i64 e, .int .i64 t] 31)))
  have HN := Lib.hid (Blk.new w 31 [.int .i64 (k : Nat), .string s, .string p, .bool hh, .int .i64 e, .int .i64 t])
  have HRR := Lib.hid hRR
  have HT0 := Lib.hid ht0
  have h0 : ¬ (k : Int) < 0 := by omega
  have h9 : ¬ (10 : Int) ≤ (k : Int) := by omega
  have hk11 : ks = 11 ∨ ks = 0 := by rcases hRR with ⟨h, _⟩ | ⟨h, _⟩ <;> simp [h]
  clear hR hRR hsp hks hf hs hT hM ht0
  dsimp only
  have HB0 := Lib.hid (Bel.alloc w (.cells #[.int .i64 (k : Nat), .string s, .string p, .bool hh, .int .i64 e, .int .i64 t] 31))
  have HTK := Lib.hid (fun W (h : TabO W) => h k hk)
  rcases hk11 with rfl | rfl
  · clear hcase
    go_enter Tryz.func23, Tryz.ntmps23
    go_wp2_with (first
      | (go_at_call 48; ((with_reducible refine (HF.out _ HT.out).mono ?_); rintro y w2 ⟨rfl, hb⟩; have HB2 := Lib.hid (HB0.out.trans hb); have HM2 := Lib.hid (HM.out.bel hb); have HN2 := Lib.hid (HN.out.bel hb); clear hb; obtain ⟨c0', c1', c2', c3', c4', c5'⟩ := cells6_p17 HN2.out))
      | (go_at_call 49; ((with_reducible refine (HSP.out _ HM2.out).mono ?_); rintro y w3 ⟨hb, A3, c3, rfl⟩; have HB3 := Lib.hid (HB2.out.trans hb); clear hb)))
    go_ret
    have hR : R = 11 := by have := HRR.out; omega
    subst hR
    exact ⟨rfl, HB3.out⟩
  · rcases hcase with ⟨hk1, g1, g2⟩ | ⟨hk1, g1, g2⟩ | ⟨hk1, g1, g2⟩ | ⟨hk1, g1, g2⟩ | ⟨hk1, g1, g2⟩
    all_goals
      rw [g1, g2] at HTK
      have HK1 := Lib.hid hk1
      clear hk1
      go_enter Tryz.func23, Tryz.ntmps23
      go_wp2_with (first
        | (go_at_call 48; ((with_reducible refine (HF.out _ HT.out).mono ?_); rintro y w2 ⟨rfl, hb⟩; have HB2 := Lib.hid (HB0.out.trans hb); have HM2 := Lib.hid (HM.out.bel hb); have HT2 := Lib.hid (HT.out.bel hb); have HN2 := Lib.hid (HN.out.bel hb); clear hb; obtain ⟨c0', c1', c2', c3', c4', c5'⟩ := cells6_p17 HN2.out))
        | (go_at_call 49; ((with_reducible refine (HSP.out _ HM2.out).mono ?_); rintro y w3 ⟨hb, A3, c3, rfl⟩; have HB3 := Lib.hid (HB2.out.trans hb); have HN3 := Lib.hid (HN2.out.bel hb); have HT3 := Lib.hid (HT2.out.bel hb); clear hb; obtain ⟨d0', d1', d2', d3', d4', d5'⟩ := cells6_p17 HN3.out; have q4 : ∀ o, (w3.alloc o).cell? ⟨w.heap.size, 4, none⟩ = some (.int .i64 e) := (fun o => (HN3.out.alloc o).cell 4); have q5 : ∀ o, (w3.alloc o).cell? ⟨w.heap.size, 5, none⟩ = some (.int .i64 t) := (fun o => (HN3.out.alloc o).cell 5); obtain ⟨t0, t1, t2, t3, t4⟩ := HTK.out _ HT3.out)))
      all_goals go_ret
      all_goals
        have hRR := HRR.out
        have hk1 := HK1.out
        have ht0 := HT0.out
        first
          | (have hR : R = 0 := by omega
             subst hR
             exact ⟨rfl, HB3.out.trans (Bel.alloc _ _)⟩)
          | (have hR : R = 2 := by omega
             subst hR
             exact ⟨rfl, HB3.out.trans (Bel.alloc _ _)⟩)
          | (have hR : R = 3 := by omega
             subst hR
             exact ⟨rfl, HB3.out.trans (Bel.alloc _ _)⟩)
theorem pk_c (x : XI) (i n : Nat) (hn : 1 ≤ n) (w : World) (hT : TabO w) (hM : MX w) (hp : x.p.size < 4294967281) : PkC x i n w := by
  by_cases h : x.o < 0 ∨ 9 < x.o
  · exact pk_out x i n w h
  obtain ⟨o, s, p, hh, e, t⟩ := x
  dsimp only at h hp
  obtain ⟨k, rfl⟩ : ∃ k : Nat, o = (k : Nat) := ⟨o.toNat, by omega⟩
  by_cases hs : shapeX ⟨(k : Nat), s, p, hh, e, t⟩
  · exact pk_main k (by omega) s p hh e t i n hn w hT hM hp hs
  · exact pk_shape k (by omega) s p hh e t i n w hT hs
end Go.Proofs.YtpcapmdfjmpdiaaGreatDoor

namespace Go.Proofs.YtpcapmdfjmpdiaaGreatDoor
open Go.RowKit Go.BigFrame NT
set_option linter.unusedVariables false
set_option linter.unusedSimpArgs false
set_option maxRecDepth 100000

theorem isEnd_c (o : Int) (w : World) : Calls Tryz.prog 24 #[.int .i64 o] w fun e w' => e = .returned (.bool (decide (o = 9 ∨ o = 7))) ∧ w' = w := by
  obtain ⟨R, hR⟩ : ∃ R, R = decide (o = 9 ∨ o = 7) := ⟨_, rfl⟩
  rw [← hR]
  have HR := Lib.hid hR
  clear hR
  by_cases h9 : o = 9
  · have hr : R = true := by rw [HR.out]; exact decide_eq_true (.inl h9)
    subst hr h9
    go_enter Tryz.func24, Tryz.ntmps24
    go_wp2_with fail
    go_ret
    exact ⟨rfl, rfl⟩
  · have b9 : (o == 9) = false := beq_eq_false_iff_ne.2 h9
    by_cases h7 : o = 7
    · have hr : R = true := by rw [HR.out]; exact decide_eq_true (.inr h7)
      subst hr h7
      go_enter Tryz.func24, Tryz.ntmps24
      go_wp2_with fail
      go_ret
      exact ⟨rfl, rfl⟩
    · have b7 : (o == 7) = false := beq_eq_false_iff_ne.2 h7
      have hr : R = false := by rw [HR.out]; exact decide_eq_false (by simp [h9, h7])
      subst hr
      go_enter Tryz.func24, Tryz.ntmps24
      go_wp2_with fail
      go_ret
      exact ⟨rfl, rfl⟩
set_option maxHeartbeats 6400000 in
theorem pcheck17_c {w : World} {A : Option Addr} {c : Nat} {l : List XI} (hA : Xr w A c l) (hT : TabO w) (hM : MX w) (hp : ∀ x, x ∈ l → x.p.size < 4294967281) (hl9 : l.length ≤ 1000000000) :
    Calls Tryz.prog 13 #[.slice A l.length c] w fun e w' => e = .returned (.tuple #[.int .i64 ((checkC l).1 : Nat), .int .i64 ((checkC l).2 : Nat)]) ∧ Bel w w' := by
  obtain ⟨R, hR⟩ : ∃ R, R = checkC l := ⟨_, rfl⟩
  rw [← hR]
  obtain ⟨n, hn⟩ : ∃ n, n = l.length := ⟨_, rfl⟩
  rw [← hn] at hl9 ⊢
  have HN := Lib.hid hn
  have HA := Lib.hid hA
  have HP := Lib.hid hp
  have HTO := Lib.hid hT
  have HMX := Lib.hid hM
  unfold checkC at hR
  rw [← hn] at hR
  by_cases hbig : 65536 < n
  · rw [if_pos hbig] at hR
    subst hR
    have hb : (65536 : Int) < (n : Int) := by omega
    clear hA hp hn hT hM
    go_enter Tryz.func13, Tryz.ntmps13
    go_wp2_with fail
    go_ret2
    exact ⟨rfl, Bel.refl _⟩
  rw [if_neg hbig] at hR
  have hb : ¬ (65536 : Int) < (n : Int) := by omega
  have HR := Lib.hid hR
  clear hA hp hn hR hT hM
  go_enter Tryz.func13, Tryz.ntmps13
  go_wp2_with fail
  go_loopw [12] (fun s12 wr => ∃ i : Nat, i ≤ n ∧ s12 = .int .i64 i ∧ Hid (scanC n 0 (l.take i) = none) ∧ Hid (Bel w wr)) (fun s12 _ => n - (intOf s12).toNat)
  case atStart => exact ⟨0, Nat.zero_le _, rfl, Lib.hid rfl, Lib.hid (Bel.refl _)⟩
  case round =>
    obtain ⟨i, hin, rfl, HS, HB⟩ := hrel
    by_cases hlt : i < n
    · have hxt := List.getElem?_eq_getElem (l := l) (i := i) (by have := HN.out; omega)
      generalize l[i]'(by have := HN.out; omega) = x at hxt
      obtain ⟨g, o, rfl, hc⟩ := HA.out.2 i x hxt
      have HXT := Lib.hid hxt
      have HB1 := Lib.hid (HB.out.trans (Bel.alloc wr (.cells #[.int .i64 x.o, .string x.s, .string x.p, .bool x.h, .int .i64 x.e, .int .i64 x.t] 31)))
      have HON := Lib.hid (pk_c x i n (by omega) _ (HTO.out.bel HB1.out) (HMX.out.bel HB1.out) (HP.out x (List.mem_of_getElem? hxt)))
      obtain ⟨k, hk⟩ : ∃ k, k = oneC x i n := ⟨_, rfl⟩
      unfold PkC at HON
      rw [← hk] at HON
      have HK := Lib.hid hk
      have c0 := hc wr HB.out 0 _ rfl
      have c1 := hc wr HB.out 1 _ rfl
      have c2 := hc wr HB.out 2 _ rfl
      have c3 := hc wr HB.out 3 _ rfl
      have c4 := hc wr HB.out 4 _ rfl
      have c5 := hc wr HB.out 5 _ rfl
      rw [Nat.add_zero] at c0
      clear hc hxt hk
      by_cases hk0 : k = 0
      · subst hk0
        go_wp2_with (go_at_call 23; ((with_reducible refine (HON.out).mono ?_); rintro e w2 ⟨rfl, hb⟩; have HB2 := Lib.hid (HB1.out.trans hb); clear hb))
        go_roundw
        case rel => exact ⟨i + 1, by omega, by go_num, Lib.hid ((scanC_step HXT.out HS.out).1 HK.out.symm), HB2⟩
        case measure => simp [intOf]; omega
      · have hk1 : ((k : Int) != 0) = true := bne_iff_ne.2 (by omega)
        have hk2 : (k : Int) ≠ 0 := by omega
        have hRR : R = (i, k) := by
          have h := HR.out
          rw [(scanC_step HXT.out HS.out).2 (by rw [← HK.out]; exact hk0), ← HK.out] at h
          exact h
        subst hRR
        go_wp2_with (go_at_call 23; ((with_reducible refine (HON.out).mono ?_); rintro e w2 ⟨rfl, hb⟩; have HB2 := Lib.hid (HB1.out.trans hb); clear hb))
        go_ret2
        exact ⟨rfl, HB2.out⟩
    · obtain rfl : i = n := by omega
      have hs : scanC i 0 l = none := by have h := HS.out; rwa [HN.out, List.take_length, ← HN.out] at h
      have hr := HR.out
      rw [hs] at hr
      dsimp only at hr
      cases hl : l.getLast? with
      | none =>
        rw [hl] at hr
        dsimp only at hr
        subst hr
        have h0 : i = 0 := by rw [HN.out, List.getLast?_eq_none_iff.1 hl]; rfl
        subst h0
        clear hs hl
        go_wp2_with fail
        go_ret2
        exact ⟨rfl, HB.out⟩
      | some x =>
        rw [hl] at hr
        dsimp only at hr
        have hi1 : 0 < i := by
          rw [HN.out]
          cases l with
          | nil => cases hl
          | cons y r => simp
        obtain ⟨j, hj⟩ : ∃ j, i = j + 1 := ⟨i - 1, by omega⟩
        have hx : l[j]? = some x := by
          rw [List.getLast?_eq_getElem?, ← HN.out, hj] at hl
          exact hl
        obtain ⟨g, o, rfl, hc⟩ := HA.out.2 j x hx
        have c0 := hc wr HB.out 0 _ rfl
        rw [Nat.add_zero] at c0
        have hj1 : IntKind.i64.wrap ((i : Int) - 1) = (j : Int) := (IntWalk.i64_in _ (by omega)).trans (by omega)
        have hj2 : (i : Int) - 1 = (j : Int) := by omega
        have hj3 : j < i := by omega
        have hi0 : ((i : Int) == 0) = false := by rw [beq_eq_false_iff_ne]; omega
        have HRR := Lib.hid hr
        obtain ⟨b, hb'⟩ : ∃ b, b = decide (x.o = 9 ∨ x.o = 7) := ⟨_, rfl⟩
        have HIE := Lib.hid (isEnd_c x.o wr)
        rw [← hb'] at HIE
        have HBB := Lib.hid hb'
        clear hs hl hr hx hc hj hb'
        cases b with
        | true =>
          have hRR : R = (i, 0) := by rw [HRR.out, if_pos (of_decide_eq_true HBB.out.symm)]
          subst hRR
          go_wp2_with (go_at_call 24; ((with_reducible refine (HIE.out).mono ?_); rintro e w2 ⟨rfl, rfl⟩))
          go_ret2
          exact ⟨rfl, HB.out⟩
        | false =>
          have hRR : R = (i, 7) := by rw [HRR.out, if_neg (of_decide_eq_false HBB.out.symm)]
          subst hRR
          go_wp2_with (go_at_call 24; ((with_reducible refine (HIE.out).mono ?_); rintro e w2 ⟨rfl, rfl⟩))
          go_ret2
          exact ⟨rfl, HB.out⟩
end Go.Proofs.YtpcapmdfjmpdiaaGreatDoor

namespace Go.Proofs.YtpcapmdfjmpdiaaGreatDoor
open Go.RowKit Go.Lib Go.Shelf Go.BigFrame Go.Joins Go.ChangeShapes Go.WideShapes Go.Deep
set_option linter.unusedVariables false
set_option maxRecDepth 100000

/-- The rows' list. -/
def laidList : List (String × DataW Unit) := Rows.compileIsValidRow.laid
/-- What the walks ask of the tables. -/
abbrev Tabs (w : World) : Prop := TabO w
def rowD (k : Nat) : DataW Unit := .agg [.lit (.bool (tS k)), .lit (.bool (tP k)), .lit (.bool (tH k)), .lit (.bool (tE k)), .lit (.int .i64 (tT k : Nat))]
theorem opr_eq : Rows.laid_tmplpipe_compile_operandsOf (H := Unit) = .agg ((List.range 10).map rowD) := by kernel_rfl
theorem opr_name : Tryz.prog.globalNamed (laidList.map (·.1))[1]! = some 0 := by kernel_rfl
theorem opr_type : (Tryz.prog.globals[0]?).map (·.type) = some 124 := by kernel_rfl
theorem opr_cells : Tryz.prog.cellsOf 123 = 5 := by kernel_rfl
theorem row_cells {P : Program} {w : World} {f0 f1 f2 f3 f4 : Field} {V : TypeId} (hV : P.underlying V = some (.struct #[f0, f1, f2, f3, f4])) (hone : oneCellFields P #[f0, f1, f2, f3, f4] = true) (hVc : P.cellsOf V = 5)
    (t0 : P.underlying f0.type = some .bool) (t1 : P.underlying f1.type = some .bool) (t2 : P.underlying f2.type = some .bool) (t3 : P.underlying f3.type = some .bool) (t4 : P.underlying f4.type = some (.int .i64))
    {H : Type} {enc : TypeId × Value → H} {base : Nat} {sp : Nat → Bool} {held : Bool} {fuel : Nat} {cs : List Value} {b0 b1 b2 b3 : Bool} {z : Int} {q : List MemPlace}
    (h : DataW.trod enc P w base sp held fuel V cs = some (.agg [.lit (.bool b0), .lit (.bool b1), .lit (.bool b2), .lit (.bool b3), .lit (.int .i64 z)], q)) : cs = [.bool b0, .bool b1, .bool b2, .bool b3, .int .i64 z] := by
  obtain ⟨ys, n, rfl, hyy, hlen, hyl, hf⟩ := DataW.trod_struct hV h
  rw [hVc] at hlen
  simp only [List.size_toArray, List.length_cons, List.length_nil] at hyl
  match cs, hlen with
  | [v0, v1, v2, v3, v4], _ =>
    have at0 := hf 0 f0 rfl
    have at1 := hf 1 f1 rfl
    have at2 := hf 2 f2 rfl
    have at3 := hf 3 f3 rfl
    have at4 := hf 4 f4 rfl
    obtain ⟨a0, b0'⟩ := hone_of hone 0 f0 rfl
    obtain ⟨a1, b1'⟩ := hone_of hone 1 f1 rfl
    obtain ⟨a2, b2'⟩ := hone_of hone 2 f2 rfl
    obtain ⟨a3, b3'⟩ := hone_of hone 3 f3 rfl
    obtain ⟨a4, b4'⟩ := hone_of hone 4 f4 rfl
    rw [a0, b0'] at at0; rw [a1, b1'] at at1; rw [a2, b2'] at at2; rw [a3, b3'] at at3; rw [a4, b4'] at at4
    simp only [List.drop_zero, List.drop_succ_cons, List.take_succ_cons, List.take_zero] at at0 at1 at2 at3 at4
    match ys, hyl with
    | [y0, y1, y2, y3, y4], _ =>
    simp only [List.getElem?_cons_zero, List.getElem?_cons_succ] at at0 at1 at2 at3 at4
    obtain ⟨c0, e0, g0⟩ := DataW.trod_bool t0 at0
    obtain ⟨c1, e1, g1⟩ := DataW.trod_bool t1 at1
    obtain ⟨c2, e2, g2⟩ := DataW.trod_bool t2 at2
    obtain ⟨c3, e3, g3⟩ := DataW.trod_bool t3 at3
    obtain ⟨c4, e4, g4, _⟩ := DataW.trod_int t4 at4
    subst g0 g1 g2 g3 g4
    simp only [List.cons.injEq, and_true] at e0 e1 e2 e3 e4
    subst e0 e1 e2 e3 e4
    injection hyy with hyy _
    simp only [List.map_cons, List.map_nil, DataW.agg.injEq, List.cons.injEq, DataW.lit.injEq, Lit.bool.injEq, Lit.int.injEq, true_and, and_true] at hyy
    obtain ⟨rfl, rfl, rfl, rfl, rfl⟩ := hyy
    rfl
theorem tabs_of_laid {w : World} (h : laidMet Tryz.prog laidList w) : Tabs w := by
  have h3 := laidMet.reads h (n := (laidList.map (·.1))[1]!) (d := Rows.laid_tmplpipe_compile_operandsOf) (.tail _ (.head _))
  rw [opr_eq] at h3
  obtain ⟨g, t, cs, fuel, p, hg, hty, hvar, hd⟩ := h3
  obtain rfl := Option.some.inj (opr_name.symm.trans hg)
  obtain rfl := Option.some.inj (opr_type.symm.trans hty)
  intro k hk
  obtain ⟨fuel', d, q, hdi, he⟩ := array_elem Tryz.underlying124 hd k hk
  simp only [List.getElem?_map, List.getElem?_range hk, Option.map_some, Option.some.injEq] at hdi
  subst hdi
  rw [opr_cells] at he
  have hcs := row_cells Tryz.underlying123 (by kernel_rfl) opr_cells Tryz.underlying4 Tryz.underlying4 Tryz.underlying4 Tryz.underlying4 Tryz.underlying3 he
  have key : ∀ j v, j < 5 → ([.bool (tS k), .bool (tP k), .bool (tH k), .bool (tE k), .int .i64 (tT k : Nat)] : List Value)[j]? = some v → w.cell? ⟨0, k * 5 + j, none⟩ = some v := by
    intro j v hj hv
    rw [World.var?_cell hg hvar (k * 5 + j), ← Array.getElem?_toList]
    have e := congrArg (·[j]?) hcs
    simp only [List.getElem?_take, List.getElem?_drop, if_pos hj] at e
    rw [← hv, ← e]
  exact ⟨key 0 _ (by decide) rfl, key 1 _ (by decide) rfl, key 2 _ (by decide) rfl, key 3 _ (by decide) rfl, key 4 _ (by decide) rfl⟩
end Go.Proofs.YtpcapmdfjmpdiaaGreatDoor
