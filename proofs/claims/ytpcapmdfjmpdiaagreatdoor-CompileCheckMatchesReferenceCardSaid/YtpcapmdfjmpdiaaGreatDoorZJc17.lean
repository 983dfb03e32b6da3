/-
  The reference of layer 17: one, whole.
  The reference of layer 17: Check.
  What a reading of an argument gives where it is a slice of nodes of templates. No program is imported here.
  What a reading of an argument gives where it is a slice of instructions.
  The law CompileCheckMatchesReference, walked.
-/
import Derived.Test.YtpcapmdfjmpdiaaGreatDoorZOo17
import Derived.Test.YtpcapmdfjmpdiaaGreatDoorZOq17
import Derived.Test.YtpcapmdfjmpdiaaGreatDoorZPc17
import Derived.Test.YtpcapmdfjmpdiaaGreatDoorZNpure
import Derived.Test.YtpcapmdfjmpdiaaGreatDoorZPs17
import Derived.Test.YtpcapmdfjmpdiaaGreatDoorZTabs
namespace Go.Proofs.YtpcapmdfjmpdiaaGreatDoor
open Go.RowKit Go.BigFrame NT
set_option linter.unusedVariables false
set_option linter.unusedSimpArgs false
set_option maxRecDepth 100000

set_option maxHeartbeats 6400000 in
theorem one_out (x : XI) (i n : Nat) (w : World) (h : x.o < 0 ∨ 9 < x.o) : OnC x i n w := by
  obtain ⟨k, s, p, hh, e, t⟩ := x
  unfold OnC
  dsimp only at h ⊢
  have hR : oneC ⟨k, s, p, hh, e, t⟩ i n = 5 := by unfold oneC; rw [if_pos h]
  rw [hR]
  clear hR
  by_cases h0 : k < 0
  · clear h
    go_enter Tryz.func25, Tryz.ntmps25
    go_wp2_with fail
    go_ret
    exact ⟨rfl, Bel.alloc _ _⟩
  · have h9 : 9 < k := by omega
    clear h
    go_enter Tryz.func25, Tryz.ntmps25
    go_wp2_with fail
    go_ret
    exact ⟨rfl, Bel.alloc _ _⟩
theorem rone_c (x : XI) (i n : Nat) (w : World) (hp : x.p.size ≤ 2000000) : OnC x i n w := by
  by_cases h : x.o < 0 ∨ 9 < x.o
  · exact one_out x i n w h
  obtain ⟨k, s, p, hh, e, t⟩ := x
  dsimp only at h hp
  have hk : k = 0 ∨ k = 1 ∨ k = 2 ∨ k = 3 ∨ k = 4 ∨ k = 5 ∨ k = 6 ∨ k = 7 ∨ k = 8 ∨ k = 9 := by omega
  rcases hk with rfl | rfl | rfl | rfl | rfl | rfl | rfl | rfl | rfl | rfl
  · exact one_0 s p hh e t i n w hp
  · exact one_1 s p hh e t i n w hp
  · exact one_2 s p hh e t i n w hp
  · exact one_3 s p hh e t i n w hp
  · exact one_4 s p hh e t i n w hp
  · exact one_5 s p hh e t i n w hp
  · exact one_6 s p hh e t i n w hp
  · exact one_7 s p hh e t i n w hp
  · exact one_8 s p hh e t i n w hp
  · exact one_9 s p hh e t i n w hp
end Go.Proofs.YtpcapmdfjmpdiaaGreatDoor

namespace Go.Proofs.YtpcapmdfjmpdiaaGreatDoor
open Go.RowKit Go.BigFrame NT
set_option linter.unusedVariables false
set_option linter.unusedSimpArgs false
set_option maxRecDepth 100000

set_option maxHeartbeats 6400000 in
theorem rcheck17_c {w : World} {A : Option Addr} {c : Nat} {l : List XI} (hA : Xr w A c l) (hp : ∀ x, x ∈ l → x.p.size ≤ 2000000) (hl9 : l.length ≤ 1000000000) :
    Calls Tryz.prog 14 #[.slice A l.length c] w fun e w' => e = .returned (.tuple #[.int .i64 ((checkC l).1 : Nat), .int .i64 ((checkC l).2 : Nat)]) ∧ Bel w w' := by
  obtain ⟨R, hR⟩ : ∃ R, R = checkC l := ⟨_, rfl⟩
  rw [← hR]
  obtain ⟨n, hn⟩ : ∃ n, n = l.length := ⟨_, rfl⟩
  rw [← hn] at hl9 ⊢
  have HN := Lib.hid hn
  have HA := Lib.hid hA
  have HP := Lib.hid hp
  unfold checkC at hR
  rw [← hn] at hR
  by_cases hbig : 65536 < n
  · rw [if_pos hbig] at hR
    subst hR
    have hb : (65536 : Int) < (n : Int) := by omega
    clear hA hp hn
    go_enter Tryz.func14, Tryz.ntmps14
    go_wp2_with fail
    go_ret2
    exact ⟨rfl, Bel.refl _⟩
  rw [if_neg hbig] at hR
  have hb : ¬ (65536 : Int) < (n : Int) := by omega
  have HR := Lib.hid hR
  clear hA hp hn hR
  go_enter Tryz.func14, Tryz.ntmps14
  go_wp2_with fail
  go_loopw [5] (fun s5 wr => ∃ i : Nat, i ≤ n ∧ s5 = .int .i64 i ∧ Hid (scanC n 0 (l.take i) = none) ∧ Hid (Bel w wr)) (fun s5 _ => n - (intOf s5).toNat)
  case atStart => exact ⟨0, Nat.zero_le _, rfl, Lib.hid rfl, Lib.hid (Bel.refl _)⟩
  case round =>
    obtain ⟨i, hin, rfl, HS, HB⟩ := hrel
    by_cases hlt : i < n
    · have hxt := List.getElem?_eq_getElem (l := l) (i := i) (by have := HN.out; omega)
      generalize l[i]'(by have := HN.out; omega) = x at hxt
      obtain ⟨g, o, rfl, hc⟩ := HA.out.2 i x hxt
      have HXT := Lib.hid hxt
      have HON := Lib.hid (fun W => rone_c x i n W (HP.out x (List.mem_of_getElem? hxt)))
      obtain ⟨k, hk⟩ : ∃ k, k = oneC x i n := ⟨_, rfl⟩
      unfold OnC at HON
      rw [← hk] at HON
      have HK := Lib.hid hk
      have c0 := hc wr HB.out 0 _ rfl
      have c1 := hc wr HB.out 1 _ rfl
      have c2 := hc wr HB.out 2 _ rfl
      have c3 := hc wr HB.out 3 _ rfl
      have c4 := hc wr HB.out 4 _ rfl
      have c5 := hc wr HB.out 5 _ rfl
      rw [Nat.add_zero] at c0
      clear hc hxt hk
      by_cases hk0 : k = 0
      · subst hk0
        go_wp2_with (go_at_call 25; ((with_reducible refine (HON.out _).mono ?_); rintro e w2 ⟨rfl, hb⟩; have HB2 := Lib.hid (HB.out.trans hb); clear hb))
        go_roundw
        case rel => exact ⟨i + 1, by omega, by go_num, Lib.hid ((scanC_step HXT.out HS.out).1 HK.out.symm), HB2⟩
        case measure => simp [intOf]; omega
      · have hk1 : ((k : Int) != 0) = true := bne_iff_ne.2 (by omega)
        have hk2 : (k : Int) ≠ 0 := by omega
        have hRR : R = (i, k) := by
          have h := HR.out
          rw [(scanC_step HXT.out HS.out).2 (by rw [← HK.out]; exact hk0), ← HK.out] at h
          exact h
        subst hRR
        go_wp2_with (go_at_call 25; ((with_reducible refine (HON.out _).mono ?_); rintro e w2 ⟨rfl, hb⟩; have HB2 := Lib.hid (HB.out.trans hb); clear hb))
        go_ret2
        exact ⟨rfl, HB2.out⟩
    · obtain rfl : i = n := by omega
      have hs : scanC i 0 l = none := by have h := HS.out; rwa [HN.out, List.take_length, ← HN.out] at h
      have hr := HR.out
      rw [hs] at hr
      dsimp only at hr
      cases hl : l.getLast? with
      | none =>
        rw [hl] at hr
        dsimp only at hr
        subst hr
        have h0 : i = 0 := by rw [HN.out, List.getLast?_eq_none_iff.1 hl]; rfl
        subst h0
        clear hs hl
        go_wp2_with fail
        go_ret2
        exact ⟨rfl, HB.out⟩
      | some x =>
        rw [hl] at hr
        dsimp only at hr
        have hi1 : 0 < i := by
          rw [HN.out]
          cases l with
          | nil => cases hl
          | cons y r => simp
        obtain ⟨j, hj⟩ : ∃ j, i = j + 1 := ⟨i - 1, by omega⟩
        have hx : l[j]? = some x := by
          rw [List.getLast?_eq_getElem?, ← HN.out, hj] at hl
          exact hl
        obtain ⟨g, o, rfl, hc⟩ := HA.out.2 j x hx
        have c0 := hc wr HB.out 0 _ rfl
        rw [Nat.add_zero] at c0
        have hj1 : IntKind.i64.wrap ((i : Int) - 1) = (j : Int) := (IntWalk.i64_in _ (by omega)).trans (by omega)
        have hj2 : (i : Int) - 1 = (j : Int) := by omega
        have hj3 : j < i := by omega
        have hi0 : ((i : Int) == 0) = false := by rw [beq_eq_false_iff_ne]; omega
        have HRR := Lib.hid hr
        clear hs hl hr hx hc hj
        by_cases h9 : x.o = 9
        · have b9 : (x.o != 9) = false := by rw [h9]; rfl
          have hRR : R = (i, 0) := by rw [HRR.out, if_pos (.inl h9)]
          subst hRR
          clear h9
          go_wp2_with fail
          go_ret2
          exact ⟨rfl, HB.out⟩
        have b9 : (x.o != 9) = true := bne_iff_ne.2 h9
        by_cases h7 : x.o = 7
        · have b7 : (x.o != 7) = false := by rw [h7]; rfl
          have hRR : R = (i, 0) := by rw [HRR.out, if_pos (.inr h7)]
          subst hRR
          go_wp2_with fail
          go_ret2
          exact ⟨rfl, HB.out⟩
        · have b7 : (x.o != 7) = true := bne_iff_ne.2 h7
          have hRR : R = (i, 7) := by rw [HRR.out, if_neg (by rintro (h | h); exact h9 h; exact h7 h)]
          subst hRR
          go_wp2_with fail
          go_ret2
          exact ⟨rfl, HB.out⟩
end Go.Proofs.YtpcapmdfjmpdiaaGreatDoor

namespace Go.Proofs.YtpcapmdfjmpdiaaGreatDoor
open Go.Joins Go.ChangeShapes Go.WideShapes Go.Deep Go.RowKit
set_option linter.unusedVariables false
namespace NT
variable {H : Type} {enc : TypeId × Value → H} {P : Program} {w : World}
theorem weightsAll_in {e : TypeId} : ∀ {ds : List (DataW H)} {d : DataW H} {n : Nat}, d ∈ ds → n ∈ d.weights P e → n ∈ DataW.weightsAll P e ds
  | d0 :: ds, d, n, hd, hn => by
    simp only [DataW.weightsAll, List.mem_append]
    rcases List.mem_cons.1 hd with rfl | h
    · exact .inl hn
    · exact .inr (weightsAll_in h hn)
end NT
end Go.Proofs.YtpcapmdfjmpdiaaGreatDoor

namespace Go.Proofs.YtpcapmdfjmpdiaaGreatDoor
open Go.Joins Go.ChangeShapes Go.WideShapes Go.Deep Go.RowKit Go.BigFrame
set_option linter.unusedVariables false
variable {H : Type} {enc : TypeId × Value → H} {P : Program} {w : World}

theorem xi_of_trod {V : TypeId} {f0 f1 f2 f3 f4 f5 : Field} (hV : P.underlying V = some (.struct #[f0, f1, f2, f3, f4, f5])) (hone : oneCellFields P #[f0, f1, f2, f3, f4, f5] = true)
    (hVc : P.cellsOf V = 6) (t0 : P.underlying f0.type = some (.int .i64)) (t1 : P.underlying f1.type = some .string) (t2 : P.underlying f2.type = some .string) (t3 : P.underlying f3.type = some .bool) (t4 : P.underlying f4.type = some (.int .i64)) (t5 : P.underlying f5.type = some (.int .i64)) :
    ∀ (fuel : Nat) (cs : List Value) (x : DataW H × List MemPlace), DataW.trod enc P w 0 (fun _ => true) true fuel V cs = some x → (∀ n, n ∈ x.1.weights P V → n ≤ reachBytes) → ∃ t : XI, cs = t.cs ∧ t.s.size ≤ reachBytes ∧ t.p.size ≤ reachBytes := by
  intro fuel cs x h hw
  obtain ⟨ys, n, rfl, hyy, hlen, hyl, hf⟩ := DataW.trod_struct hV h
  rw [hyy] at hw
  rw [hVc] at hlen
  simp only [List.size_toArray, List.length_cons, List.length_nil] at hyl
  match cs, hlen with
  | [v0, v1, v2, v3, v4, v5], _ =>
    have at0 := hf 0 f0 rfl
    have at1 := hf 1 f1 rfl
    have at2 := hf 2 f2 rfl
    have at3 := hf 3 f3 rfl
    have at4 := hf 4 f4 rfl
    have at5 := hf 5 f5 rfl
    obtain ⟨a0, b0⟩ := hone_of hone 0 f0 rfl
    obtain ⟨a1, b1⟩ := hone_of hone 1 f1 rfl
    obtain ⟨a2, b2⟩ := hone_of hone 2 f2 rfl
    obtain ⟨a3, b3⟩ := hone_of hone 3 f3 rfl
    obtain ⟨a4, b4⟩ := hone_of hone 4 f4 rfl
    obtain ⟨a5, b5⟩ := hone_of hone 5 f5 rfl
    rw [a0, b0] at at0; rw [a1, b1] at at1; rw [a2, b2] at at2; rw [a3, b3] at at3; rw [a4, b4] at at4; rw [a5, b5] at at5
    simp only [List.drop_zero, List.drop_succ_cons, List.take_succ_cons, List.take_zero] at at0 at1 at2 at3 at4 at5
    match ys, hyl with
    | [y0, y1, y2, y3, y4, y5], _ =>
    have hw4 : ∀ n, n ∈ y0.1.weights P f0.type ++ (y1.1.weights P f1.type ++ (y2.1.weights P f2.type ++ (y3.1.weights P f3.type ++ (y4.1.weights P f4.type ++ (y5.1.weights P f5.type ++ []))))) → n ≤ reachBytes := by
      intro m hm
      refine hw m ?_
      unfold DataW.weights
      rw [hV]
      simp only [List.map_cons, List.map_nil, DataW.weightsEach]
      exact hm
    simp only [List.getElem?_cons_zero, List.getElem?_cons_succ] at at0 at1 at2 at3 at4 at5
    obtain ⟨k, e0, _, _⟩ := DataW.trod_int t0 at0
    obtain ⟨s, e1, ey1, _⟩ := DataW.trod_string t1 at1
    have w1 : s.size ≤ reachBytes := hw4 _ (by simp only [List.mem_append]; exact .inr (.inl (by rw [ey1]; simp [DataW.weights])))
    obtain ⟨p, e2, ey2, _⟩ := DataW.trod_string t2 at2
    have w2 : p.size ≤ reachBytes := hw4 _ (by simp only [List.mem_append]; exact .inr (.inr (.inl (by rw [ey2]; simp [DataW.weights]))))
    obtain ⟨h', e3, _⟩ := DataW.trod_bool t3 at3
    obtain ⟨e', e4, _, _⟩ := DataW.trod_int t4 at4
    obtain ⟨t', e5, _, _⟩ := DataW.trod_int t5 at5
    simp only [List.cons.injEq, and_true] at e0 e1 e2 e3 e4 e5
    subst e0 e1 e2 e3 e4 e5
    exact ⟨⟨k, s, p, h', e', t'⟩, rfl, w1, w2⟩
/-- Instructions that came in. -/
def CameI (w : World) (A : Option Addr) (n c : Nat) (l : List XI) : Prop := l.length = n ∧ Xr w A c l ∧ n * 64 ≤ reachBytes ∧ ∀ x, x ∈ l → x.s.size ≤ reachBytes ∧ x.p.size ≤ reachBytes
theorem xis_of {V LV : TypeId} {f0 f1 f2 f3 f4 f5 : Field} (hV : P.underlying V = some (.struct #[f0, f1, f2, f3, f4, f5])) (hone : oneCellFields P #[f0, f1, f2, f3, f4, f5] = true)
    (hVc : P.cellsOf V = 6) (hVb : 64 ≤ P.bytesOf V) (t0 : P.underlying f0.type = some (.int .i64)) (t1 : P.underlying f1.type = some .string) (t2 : P.underlying f2.type = some .string) (t3 : P.underlying f3.type = some .bool) (t4 : P.underlying f4.type = some (.int .i64)) (t5 : P.underlying f5.type = some (.int .i64))
    (ht : P.underlying LV = some (.slice V)) {fuel : Nat} {v : Value} {y : DataW H × List MemPlace} (h : DataW.trod enc P w 0 (fun _ => true) true fuel LV [v] = some y) (hw : ∀ n, n ∈ y.1.weights P LV → n ≤ reachBytes) :
    ∃ (A : Option Addr) (c : Nat) (l : List XI), v = .slice A l.length c ∧ CameI w A l.length c l := by
  rcases DataW.trod_slice ht h with ⟨hcs, _⟩ | ⟨a, len, cap, elems, rest, n, hfu, hcs, hye, _, hl, hm, hlen, hel, _, _⟩
  · simp only [List.cons.injEq, and_true] at hcs
    exact ⟨none, 0, [], hcs, rfl, ⟨Nat.le_refl _, fun i x hx => by simp at hx⟩, Nat.zero_le _, fun x hx => by cases hx⟩
  · rw [hVc] at hel
    simp only [List.cons.injEq, and_true] at hcs
    have hw2 : ∀ n, n ∈ (elems.length + rest.length) * P.bytesOf V :: (DataW.weightsAll P V (elems.map (·.1)) ++ DataW.weightsAll P V (rest.map (·.1))) → n ≤ reachBytes := by
      intro n hn
      refine hw n ?_
      rw [hye]
      unfold DataW.weights
      rw [ht]
      simpa using hn
    have hlr : len * 64 ≤ reachBytes := by
      have h1 := hw2 _ (List.mem_cons_self ..)
      have h2 : (elems.length + rest.length) * 64 ≤ (elems.length + rest.length) * P.bytesOf V := Nat.mul_le_mul_left _ hVb
      omega
    have one : ∀ i, i < len → ∃ t : XI, w.cells? 0 (a.add (i * 6)) 6 = some t.cs ∧ t.s.size ≤ reachBytes ∧ t.p.size ≤ reachBytes := by
      intro i hi
      have h1 := hel i hi
      rw [List.getElem?_eq_getElem (by omega)] at h1
      obtain ⟨cs', c1, c2⟩ := Option.bind_eq_some_iff.1 h1
      obtain ⟨t, t1, t2⟩ := xi_of_trod hV hone hVc t0 t1 t2 t3 t4 t5 n cs' _ c2 (fun m hm => hw2 m (List.mem_cons_of_mem _ (List.mem_append_left _ (NT.weightsAll_in (List.mem_map_of_mem (List.getElem_mem _)) hm))))
      subst t1
      exact ⟨t, c1, t2⟩
    have hinh : Inhabited XI := ⟨⟨0, ByteArray.empty, ByteArray.empty, false, 0, 0⟩⟩
    obtain ⟨f, hfn⟩ := choose_lt one
    refine ⟨some a, cap, (List.range len).map f, by simpa using hcs, by simp, ⟨by simpa using hl, fun i x hix => ?_⟩, by simpa using hlr, fun x hx => ?_⟩
    · simp only [List.getElem?_map, Option.map_eq_some_iff] at hix
      obtain ⟨j, hj, rfl⟩ := hix
      have hjl : i < len ∧ j = i := by
        obtain ⟨h1, h2⟩ := List.getElem?_eq_some_iff.1 hj
        simp at h1 h2
        exact ⟨h1, h2.symm⟩
      obtain ⟨hil, rfl⟩ := hjl
      have c1 := (hfn j hil).1
      obtain ⟨_, _, hat⟩ := World.cells?_some c1
      have hp := plain_of_cell (w := w) (a := a.add (j * 6)) (v := .int .i64 (f j).o) (by
        have := hat 0 (by omega)
        rw [this]
        rfl)
      have ha : a = ⟨a.block, a.off, none⟩ := by
        have h0 := (hfn 0 (by omega)).1
        obtain ⟨_, _, hat0⟩ := World.cells?_some h0
        have hp0 := plain_of_cell (w := w) (a := a) (v := .int .i64 (f 0).o) (by
          have := hat0 0 (by omega)
          simp only [Nat.zero_mul] at this
          rw [Go.Deep.add_add] at this
          rw [this]
          rfl)
        exact hp0.1
      refine ⟨a.block, a.off, by rw [← ha], fun W hb z u hu => ?_⟩
      have hz : z < 6 := (List.getElem?_eq_some_iff.1 hu).1
      have h5 := hat z (by omega)
      rw [ha] at h5
      rw [add_at, add_at] at h5
      have hg : a.block < w.heap.size := by have := hp.2; rw [ha, add_at] at this; exact this
      exact (hb.cell hg).trans (h5.trans hu)
    · simp only [List.mem_map, List.mem_range] at hx
      obtain ⟨i, hil, rfl⟩ := hx
      exact (hfn i hil).2
set_option maxRecDepth 100000 in
theorem open_T23 {H : Type} {enc : TypeId × Value → H} {w : World} {a : Option Addr} {len cap : Nat} {d : DataW H} {p : List MemPlace}
    (h : DataW.Trod enc Tryz.prog w 0 (fun _ => true) true 23 (.slice a len cap) d p) (hz : ∀ n, n ∈ d.weights Tryz.prog 23 → n ≤ reachBytes) : ∃ x : List XI, CameI w a len cap x := by
  obtain ⟨fuel, hf⟩ := h
  have hf' : DataW.trod enc Tryz.prog w 0 (fun _ => true) true fuel 23 [.slice a len cap] = some (d, p) := hf
  obtain ⟨A, c, l, e, hr⟩ := xis_of (V := 31) Tryz.underlying31 (by kernel_rfl) (by kernel_rfl) (of_decide_eq_true (by kernel_rfl)) Tryz.underlying3 Tryz.underlying9 Tryz.underlying9 Tryz.underlying4 Tryz.underlying3 Tryz.underlying3 Tryz.underlying23 hf' hz
  injection e with e1 e2 e3
  subst e1 e2 e3
  exact ⟨l, hr⟩
end Go.Proofs.YtpcapmdfjmpdiaaGreatDoor

namespace Go.Proofs.YtpcapmdfjmpdiaaGreatDoor
open Go.RowKit Go.BigFrame NT
set_option linter.unusedVariables false
set_option linter.unusedSimpArgs false
set_option maxRecDepth 100000

set_option maxHeartbeats 12800000 in
theorem jcLaw (A : Option Addr) (n c : Nat) (l : List XI) (w : World) (hT : MX w) (hO : TabO w) (hI : CameI w A n c l) :
    Calls Tryz.prog 4 #[.slice A n c] w fun e w' => e = .returned (.bool true) ∧ Below w.heap.size w w' := by
  obtain ⟨hn, hX, hle, hsz⟩ := hI
  have hn9 : n ≤ 2199023255552 := by unfold reachBytes at hle; omega
  have HN := Lib.hid hn
  have HX := Lib.hid hX
  have HSZ := Lib.hid hsz
  have HT := Lib.hid hT
  have HO := Lib.hid hO
  have HAL := Lib.hid (fun (W : World) (hb : Bel w W) => alive_c W (hT.bel hb))
  have HPC := Lib.hid (fun (W : World) (hb : Bel w W) (hp : ∀ x, x ∈ l → x.p.size ≤ 1000) (h9 : n ≤ 1000) => show Calls Tryz.prog 13 #[.slice A n c] W _ by have h := pcheck17_c (hX.bel hb) (hO.bel hb) (hT.bel hb) (fun x hx => by have := hp x hx; omega) (by rw [hn]; omega); rw [hn] at h; exact h)
  have HRC := Lib.hid (fun (W : World) (hb : Bel w W) (hp : ∀ x, x ∈ l → x.p.size ≤ 1000) (h9 : n ≤ 1000) => show Calls Tryz.prog 14 #[.slice A n c] W _ by have h := rcheck17_c (hX.bel hb) (fun x hx => by have := hp x hx; omega) (by rw [hn]; omega); rw [hn] at h; exact h)
  clear hn hX hle hsz hT hO
  go_enter Tryz.func4, Tryz.ntmps4
  go_wp2_with fail
  go_loopw [11] (fun s11 wr => ∃ i : Nat, i ≤ n ∧ s11 = .int .i64 i ∧ Hid (0 < i → n ≤ 1000) ∧ Hid (∀ j x, j < i → l[j]? = some x → x.p.size ≤ 1000) ∧ Hid (Bel w wr)) (fun s11 _ => n - (intOf s11).toNat)
  case atStart => exact ⟨0, Nat.zero_le _, rfl, Lib.hid (fun h => by omega), Lib.hid (fun j x hj => by omega), Lib.hid (Bel.refl _)⟩
  case round =>
    obtain ⟨i, hin, rfl, H1, HP, HB⟩ := hrel
    by_cases hlt : i < n
    · have hx := List.getElem?_eq_getElem (l := l) (i := i) (by have := HN.out; omega)
      generalize l[i]'(by have := HN.out; omega) = x at hx
      obtain ⟨g, o, rfl, hc⟩ := HX.out.2 i x hx
      obtain ⟨z1, z2⟩ := HSZ.out x (List.mem_of_getElem? hx)
      have b0 := hc wr HB.out 0 _ rfl
      have b1 := hc wr HB.out 1 _ rfl
      have b2 := hc wr HB.out 2 _ rfl
      have b3 := hc wr HB.out 3 _ rfl
      have b4 := hc wr HB.out 4 _ rfl
      have b5 := hc wr HB.out 5 _ rfl
      rw [Nat.add_zero] at b0
      have HXT := Lib.hid hx
      have HB1 := Lib.hid (HB.out.trans (Bel.alloc wr (.cells #[.int .i64 x.o, .string x.s, .string x.p, .bool x.h, .int .i64 x.e, .int .i64 x.t] 31)))
      unfold reachBytes at z1 z2
      have hsum : IntKind.i64.wrap ((x.s.size : Int) + (x.p.size : Int)) = (x.s.size : Int) + (x.p.size : Int) := IntWalk.i64_in _ (by omega)
      clear hc hx
      by_cases hbig : 1000 < n ∨ 1000 < x.s.size + x.p.size
      · by_cases hn1 : 1000 < n
        · have c1 : (1000 : Int) < (n : Int) := by omega
          clear hbig
          go_wp2_with (go_at_call 9; ((with_reducible refine (HAL.out _ HB1.out).mono ?_); rintro e w2 ⟨rfl, hb⟩; have HB2 := Lib.hid (HB1.out.trans hb); clear hb))
          go_ret
          exact ⟨rfl, HB2.out⟩
        · have c1 : ¬ (1000 : Int) < (n : Int) := by omega
          have c2 : (1000 : Int) < (x.s.size : Int) + (x.p.size : Int) := by omega
          clear hbig
          go_wp2_with (go_at_call 9; ((with_reducible refine (HAL.out _ HB1.out).mono ?_); rintro e w2 ⟨rfl, hb⟩; have HB2 := Lib.hid (HB1.out.trans hb); clear hb))
          go_ret
          exact ⟨rfl, HB2.out⟩
      · have c1 : ¬ (1000 : Int) < (n : Int) := by omega
        have c2 : ¬ (1000 : Int) < (x.s.size : Int) + (x.p.size : Int) := by omega
        have HBG := Lib.hid hbig
        clear hbig
        go_wp2_with fail
        go_roundw
        case rel =>
          refine ⟨i + 1, by omega, by go_num, Lib.hid (fun _ => by have := HBG.out; omega), Lib.hid (fun j y hj hy => ?_), HB1⟩
          by_cases hji : j = i
          · subst hji
            rw [HXT.out] at hy
            injection hy with hy
            subst hy
            have := HBG.out
            omega
          · exact HP.out j y (by omega) hy
        case measure => simp [intOf]; omega
    · obtain rfl : i = n := by omega
      have h9 : i ≤ 1000 := by
        by_cases h0 : 0 < i
        · exact H1.out h0
        · omega
      have HPP : Hid (∀ x, x ∈ l → x.p.size ≤ 1000) := Lib.hid (fun x hx => by
        obtain ⟨j, hj, e⟩ := List.mem_iff_getElem.1 hx
        exact HP.out j x (by have := HN.out; omega) (by rw [List.getElem?_eq_getElem hj, e]))
      generalize checkC l = R at HPC HRC
      obtain ⟨r1, r2⟩ := R
      dsimp only at HPC HRC
      go_wp2_with (first
        | (go_at_call 13; ((with_reducible refine (HPC.out _ HB.out HPP.out h9).mono ?_); rintro e w2 ⟨rfl, hb⟩; have HB2 := Lib.hid (HB.out.trans hb); clear hb))
        | (go_at_call 14; ((with_reducible refine (HRC.out _ HB2.out HPP.out h9).mono ?_); rintro e w3 ⟨rfl, hb⟩; have HB3 := Lib.hid (HB2.out.trans hb); clear hb))
        | (go_at_call 9; ((with_reducible refine (HAL.out _ HB3.out).mono ?_); rintro e w4 ⟨rfl, hb⟩; have HB4 := Lib.hid (HB3.out.trans hb); clear hb)))
      go_ret
      exact ⟨rfl, HB4.out⟩
end Go.Proofs.YtpcapmdfjmpdiaaGreatDoor
