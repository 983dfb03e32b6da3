/-
  Law NamesAreBounded of layer 15.
-/
import Derived.Test.YtjfnhlmmflammaaAi15
namespace Go.Proofs.Ytjfnhlmmflammaa
open Go.RowKit Go.BigFrame
set_option linter.unusedVariables false
set_option linter.unusedSimpArgs false

set_option maxRecDepth 100000 in
set_option maxHeartbeats 6400000 in
theorem nbLaw (t : ByteArray) (w : World) (ht : t.size ≤ maxLen) : Calls Try.prog 6 #[.string t] w fun e w' => e = .returned (.bool true) ∧ Below w.heap.size w w' := by
  have HAL := Lib.hid (fun W => alive_c W)
  unfold maxLen at ht
  by_cases hbig : 3000 < t.size
  · have hi : (3000 : Int) < (t.size : Int) := by omega
    go_enter Try.func6, Try.ntmps6
    go_wp2_with (go_at_call 7; refine (HAL.out _).mono ?_; rintro e w1 ⟨rfl, hb⟩)
    go_ret
    exact ⟨rfl, hb⟩
  have hi : ¬ ((3000 : Int) < (t.size : Int)) := by omega
  have hI : Inv (runS (s0 0) (toL t)) := inv_run Inv.init _
  obtain ⟨s, hs⟩ : ∃ s, s = runS (s0 0) (toL t) := ⟨_, rfl⟩
  rw [← hs] at hI
  have HRU : Hid (∀ W, Calls Try.prog 13 #[.agg #[.int .i64 0, .string ⟨#[]⟩, .string ⟨#[]⟩, .string ⟨#[]⟩], .string t] W (SvV (.agg #[.int .i64 (s.c : Nat), .string (ofL s.n), .string (ofL s.a), .string (ofL s.p)]) W)) := Lib.hid (fun W => by
    have h := prun_c (s0 0) Inv.init t (by omega) W
    rw [← hs] at h
    exact h)
  have HI := Lib.hid hI
  clear hI hs hbig
  -- the three strings
  obtain ⟨X, hX⟩ : ∃ X : List (List UInt8), X = [s.n, s.a, s.p] := ⟨_, rfl⟩
  have HXS := Lib.hid (show ∀ l, l ∈ X → l.length ≤ 16 ∧ ∀ b, b ∈ l → ¬ (65 ≤ b.toNat ∧ b.toNat ≤ 90) by
    intro l hl
    rw [hX] at hl
    have hpp := HI.out.part
    rcases List.mem_cons.1 hl with rfl | hl
    · exact HI.out.n
    rcases List.mem_cons.1 hl with rfl | hl
    · exact HI.out.a
    rw [List.mem_singleton] at hl
    subst hl
    exact ⟨by omega, hpp.2⟩)
  have HX := Lib.hid hX
  clear hX
  go_enter Try.func6, Try.ntmps6
  go_wp2_with (go_at_call 13; ((with_reducible refine (HRU.out _).mono ?_); rintro e w1 ⟨rfl, hb1⟩; have HB1 := Lib.hid hb1; clear hb1))
  have HK := Lib.hid ((Blk.new w1 24 [.int .i64 (s.c : Nat), .string (ofL s.n), .string (ofL s.a), .string (ofL s.p)]).alloc (.cells #[.string (ofL s.n), .string (ofL s.a), .string (ofL s.p)] 9))
  have HS := Lib.hid (blk_at1h w1 (.cells #[.int .i64 (s.c : Nat), .string (ofL s.n), .string (ofL s.a), .string (ofL s.p)] 24) 9 [.string (ofL s.n), .string (ofL s.a), .string (ofL s.p)])
  have HB := Lib.hid (HB1.out.trans ((Bel.alloc w1 (.cells #[.int .i64 (s.c : Nat), .string (ofL s.n), .string (ofL s.a), .string (ofL s.p)] 24)).trans (Bel.alloc (w1.alloc (.cells #[.int .i64 (s.c : Nat), .string (ofL s.n), .string (ofL s.a), .string (ofL s.p)] 24)) (.cells #[.string (ofL s.n), .string (ofL s.a), .string (ofL s.p)] 9))))
  generalize (w1.alloc (.cells #[.int .i64 (s.c : Nat), .string (ofL s.n), .string (ofL s.a), .string (ofL s.p)] 24)).alloc (.cells #[.string (ofL s.n), .string (ofL s.a), .string (ofL s.p)] 9) = W at HK HS HB ⊢
  have HC := Lib.hid (show ∀ (i : Nat) (l : List UInt8), X[i]? = some l → W.cell? ⟨w1.heap.size + 1, i, none⟩ = some (.string (ofL l)) by
    intro i l h
    rw [HS.out.cell i, show ([.string (ofL s.n), .string (ofL s.a), .string (ofL s.p)] : List Value) = X.map (fun l => .string (ofL l)) by rw [HX.out]; rfl, List.getElem?_map, h]
    rfl)
  go_loopw [22] (fun s22 wr => ∃ i : Nat, i ≤ 3 ∧ s22 = .int .i64 i ∧ Hid (wr = W)) (fun s22 _ => 3 - (intOf s22).toNat)
  case atStart => exact ⟨0, Nat.zero_le _, rfl, Lib.hid rfl⟩
  case round =>
    obtain ⟨i, hi3, rfl, HW⟩ := hrel
    obtain rfl := HW.out
    by_cases hlt : i < 3
    · obtain ⟨l, hl⟩ : ∃ l, X[i]? = some l := ⟨_, List.getElem?_eq_getElem (by rw [HX.out]; simpa using hlt)⟩
      have c0 := HC.out i l hl
      have HL := Lib.hid (HXS.out l (List.mem_of_getElem? hl))
      have hz : (ofL l).size = l.length := rfl
      have h16 : ¬ (16 : Int) < (l.length : Int) := by have := HL.out.1; omega
      have hls : l.length ≤ 16 := HL.out.1
      clear hl
      go_wp2_with fail
      go_loopw [31] (fun s31 wq => ∃ j : Nat, j ≤ l.length ∧ s31 = .int .i64 j ∧ Hid (wq = wr)) (fun s31 _ => l.length - (intOf s31).toNat)
      case atStart => exact ⟨0, Nat.zero_le _, rfl, Lib.hid rfl⟩
      case round =>
        obtain ⟨j, hj, rfl, HQ⟩ := hrel
        obtain rfl := HQ.out
        by_cases hjl : j < l.length
        · obtain ⟨b, hb⟩ : ∃ b, l[j]? = some b := ⟨_, List.getElem?_eq_getElem hjl⟩
          have hnb := HL.out.2 b (List.mem_of_getElem? hb)
          have f5 := fun W => run_index_ofL l j b hb W
          clear hb
          by_cases h65 : (65 : Int) ≤ (b.toNat : Int)
          · have h90 : ¬ (b.toNat : Int) ≤ 90 := by omega
            clear hnb
            go_wp2_with fail
            go_roundw
            case rel => exact ⟨j + 1, by omega, by go_num, Lib.hid trivial⟩
            case measure => simp [intOf]; omega
          · clear hnb
            go_wp2_with fail
            go_roundw
            case rel => exact ⟨j + 1, by omega, by go_num, Lib.hid trivial⟩
            case measure => simp [intOf]; omega
        · obtain rfl : j = l.length := by omega
          go_wp2_with fail
          go_roundw
          case rel => exact ⟨i + 1, by omega, by go_num, Lib.hid trivial⟩
          case measure => simp [intOf]; omega
    · obtain rfl : i = 3 := by omega
      have hz : (ofL s.p).size = s.p.length := rfl
      have h7 : (s.p.length : Int) ≤ 7 := by have := HI.out.part.1; omega
      have hc0 : (0 : Int) ≤ (s.c : Int) := by omega
      have hc21 : (s.c : Int) ≤ 21 := by have := HI.out.c; omega
      go_wp2_with (go_at_call 7; refine (HAL.out _).mono ?_; rintro e w2 ⟨rfl, hb2⟩; have HK2 := Lib.hid (HK.out.belh hb2); have HB2 := Lib.hid (HB.out.trans hb2); clear hb2; obtain ⟨k0, k1, k2, k3⟩ := cells4 HK2.out)
      all_goals go_ret
      all_goals exact ⟨by simp, HB2.out⟩
end Go.Proofs.Ytjfnhlmmflammaa
