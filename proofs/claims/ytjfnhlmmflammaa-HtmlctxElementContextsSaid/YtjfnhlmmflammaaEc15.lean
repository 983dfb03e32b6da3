/-
  Law ElementContexts of layer 15.
-/
import Derived.Test.YtjfnhlmmflammaaMr15
namespace Go.Proofs.Ytjfnhlmmflammaa
open Go.RowKit Go.BigFrame
set_option linter.unusedVariables false
set_option linter.unusedSimpArgs false

theorem ofL_app (a b : List UInt8) : ofL a ++ ofL b = ofL (a ++ b) := by
  apply ByteArray.ext
  rw [ByteArray.data_append]
  simp [ofL]
theorem take_snoc15 {l : List UInt8} {p : UInt8 → Prop} {i : Nat} {b : UInt8} (h : ∀ x, x ∈ l.take i → p x) (hb : l[i]? = some b) (hp : p b) : ∀ x, x ∈ l.take (i + 1) → p x := by
  intro x hx
  rw [List.take_add_one, hb] at hx
  rcases List.mem_append.1 hx with hx | hx
  · exact h x hx
  · simp at hx; rw [hx]; exact hp
theorem st_pneq (s : HS) (w : World) : (binOp .neq 24 (.agg #[.int .i64 (s.c : Nat), .string (ofL s.n), .string (ofL s.a), .string (ofL s.p)]) (.agg #[.int .i64 (s.c : Nat), .string (ofL s.n), .string (ofL s.a), .string (ofL s.p)])).run Try.prog w = .ok (.bool false) w := by
  have u3 := Try.underlying3
  have a3 := Try.isAgg3
  have z3 := Try.sizeOf3
  have u9 := Try.underlying9
  have a9 := Try.isAgg9
  have z9 := Try.sizeOf9
  have hS : Try.prog.underlying 24 = some (.struct (Try.prog.fieldsOf 24)) := by kernel_rfl
  have hp : Try.prog.stoodInHeld 24 = false := by kernel_rfl
  rw [run_neq_struct, show (10000 : Nat) = 9999 + 1 from rfl, run_equalIn_agg w 9999 24 _ _ hS hp]
  simp only [Program.fieldsOf, Try.underlying24]
  go_simp
set_option maxRecDepth 100000 in
set_option maxHeartbeats 12800000 in
theorem ec_g1 (n m : List UInt8) (w : World) (h1 : 30 < n.length) : Calls Try.prog 5 #[.string (ofL n), .string (ofL m)] w fun e w' => e = .returned (.bool true) ∧ Below w.heap.size w w' := by
  have HAL := Lib.hid (fun W => alive_c W)
  have hzn : (ofL n).size = n.length := rfl
  have hzm : (ofL m).size = m.length := rfl
  have i1 : (30 : Int) < (n.length : Int) := by omega
  go_enter Try.func5, Try.ntmps5
  go_wp2_with (go_at_call 7; ((with_reducible refine (HAL.out _).mono ?_); rintro e w1 ⟨rfl, hb1⟩))
  go_ret
  exact ⟨rfl, hb1⟩
set_option maxRecDepth 100000 in
set_option maxHeartbeats 12800000 in
theorem ec_g2 (n m : List UInt8) (w : World) (h1 : n.length ≤ 30) (h2 : 1000 < m.length) : Calls Try.prog 5 #[.string (ofL n), .string (ofL m)] w fun e w' => e = .returned (.bool true) ∧ Below w.heap.size w w' := by
  have HAL := Lib.hid (fun W => alive_c W)
  have hzn : (ofL n).size = n.length := rfl
  have hzm : (ofL m).size = m.length := rfl
  have i1 : ¬ (30 : Int) < (n.length : Int) := by omega
  have i2 : (1000 : Int) < (m.length : Int) := by omega
  go_enter Try.func5, Try.ntmps5
  go_wp2_with (go_at_call 7; ((with_reducible refine (HAL.out _).mono ?_); rintro e w1 ⟨rfl, hb1⟩))
  go_ret
  exact ⟨rfl, hb1⟩
set_option maxRecDepth 100000 in
set_option maxHeartbeats 12800000 in
theorem ec_g3 (n m : List UInt8) (w : World) (h1 : n.length ≤ 30) (h2 : m.length ≤ 1000) (h0 : n = []) : Calls Try.prog 5 #[.string (ofL n), .string (ofL m)] w fun e w' => e = .returned (.bool true) ∧ Below w.heap.size w w' := by
  have HAL := Lib.hid (fun W => alive_c W)
  have hzn : (ofL n).size = n.length := rfl
  have hzm : (ofL m).size = m.length := rfl
  have i1 : ¬ (30 : Int) < (n.length : Int) := by omega
  have i2 : ¬ (1000 : Int) < (m.length : Int) := by omega
  have i3 : ((ofL n).toList == []) = true := pt h0
  clear h0
  go_enter Try.func5, Try.ntmps5
  go_wp2_with (go_at_call 7; ((with_reducible refine (HAL.out _).mono ?_); rintro e w1 ⟨rfl, hb1⟩))
  go_ret
  exact ⟨rfl, hb1⟩
set_option maxRecDepth 100000 in
set_option maxHeartbeats 12800000 in
theorem ec_low (n m : List UInt8) (w : World) (h1 : n.length ≤ 30) (h2 : m.length ≤ 1000) (h0 : n ≠ []) (hl : ¬ lowerL n) : Calls Try.prog 5 #[.string (ofL n), .string (ofL m)] w fun e w' => e = .returned (.bool true) ∧ Below w.heap.size w w' := by
  have HAL := Lib.hid (fun W => alive_c W)
  have hzn : (ofL n).size = n.length := rfl
  have hzm : (ofL m).size = m.length := rfl
  have i1 : ¬ (30 : Int) < (n.length : Int) := by omega
  have i2 : ¬ (1000 : Int) < (m.length : Int) := by omega
  have i3 : ((ofL n).toList == []) = false := pf h0
  have HNL := Lib.hid hl
  clear h0 hl
  go_enter Try.func5, Try.ntmps5
  go_wp2_with fail
  go_loopw [25] (fun s25 wr => ∃ i : Nat, i ≤ n.length ∧ s25 = .int .i64 i ∧ Hid (wr = w) ∧ Hid (∀ x, x ∈ n.take i → 97 ≤ x.toNat ∧ x.toNat ≤ 122)) (fun s25 _ => n.length - (intOf s25).toNat)
  case atStart => exact ⟨0, Nat.zero_le _, rfl, Lib.hid rfl, Lib.hid (by simp)⟩
  case round =>
    obtain ⟨i, hi, rfl, HW, HL⟩ := hrel
    obtain rfl := HW.out
    by_cases hlt : i < n.length
    · obtain ⟨b, hb⟩ : ∃ b, n[i]? = some b := ⟨_, List.getElem?_eq_getElem hlt⟩
      have f5 := fun W => run_index_ofL n i b hb W
      by_cases h97 : (b.toNat : Int) < 97
      · clear hb
        go_wp2_with (go_at_call 7; ((with_reducible refine (HAL.out _).mono ?_); rintro e w1 ⟨rfl, hb1⟩))
        go_ret
        exact ⟨rfl, hb1⟩
      by_cases h122 : (122 : Int) < (b.toNat : Int)
      · clear hb
        go_wp2_with (go_at_call 7; ((with_reducible refine (HAL.out _).mono ?_); rintro e w1 ⟨rfl, hb1⟩))
        go_ret
        exact ⟨rfl, hb1⟩
      have HL2 := Lib.hid (take_snoc15 (p := fun x => 97 ≤ x.toNat ∧ x.toNat ≤ 122) HL.out hb ⟨by omega, by omega⟩)
      clear hb
      go_wp2_with fail
      go_roundw
      case rel => exact ⟨i + 1, by omega, by go_num, Lib.hid trivial, HL2⟩
      case measure => simp [intOf]; omega
    · obtain rfl : i = n.length := by omega
      have := HL.out
      rw [List.take_length] at this
      exact absurd this HNL.out
set_option maxRecDepth 100000 in
set_option maxHeartbeats 12800000 in
theorem ec_0 (n m : List UInt8) (w : World) (h1 : n.length ≤ 30) (h2 : m.length ≤ 1000) (h0 : n ≠ []) (hl : lowerL n) (hn1 : n ≠ scriptL) (hn2 : n ≠ styleL) : Calls Try.prog 5 #[.string (ofL n), .string (ofL m)] w fun e w' => e = .returned (.bool true) ∧ Below w.heap.size w w' := by
  have HAL := Lib.hid (fun W => alive_c W)
  have hzn : (ofL n).size = n.length := rfl
  have hzm : (ofL m).size = m.length := rfl
  have i1 : ¬ (30 : Int) < (n.length : Int) := by omega
  have i2 : ¬ (1000 : Int) < (m.length : Int) := by omega
  have i3 : ((ofL n).toList == []) = false := pf h0
  have s1 : ((ofL n).toList == [115, 99, 114, 105, 112, 116]) = false := pf hn1
  have s2 : ((ofL n).toList == [115, 116, 121, 108, 101]) = false := pf hn2
  have ho : openS n = s0 0 := by unfold openS; rw [if_neg hn1, if_neg hn2]
  have hr := (elem_run hl h0).trans ho
  have hIk : Inv (s0 0) := by have := inv_run Inv.init (60 :: (n ++ idL)); rwa [hr] at this
  have HR1 : Hid (∀ W, Calls Try.prog 13 #[.agg #[.int .i64 0, .string ⟨#[]⟩, .string ⟨#[]⟩, .string ⟨#[]⟩], .string (⟨#[60]⟩ ++ ofL n ++ ⟨#[32, 105, 100, 61, 34, 120, 34, 62]⟩)] W (SvV (.agg #[.int .i64 0, .string ⟨#[]⟩, .string ⟨#[]⟩, .string ⟨#[]⟩]) W)) := Lib.hid (fun W => by
    have h := run0 (60 :: (n ++ idL)) (s0 0) hr (by simp [idL]; omega) W
    rw [show ofL (60 :: (n ++ idL)) = ⟨#[60]⟩ ++ ofL n ++ ⟨#[32, 105, 100, 61, 34, 120, 34, 62]⟩ from by rw [show (⟨#[60]⟩ : ByteArray) = ofL [60] from rfl, show (⟨#[32, 105, 100, 61, 34, 120, 34, 62]⟩ : ByteArray) = ofL idL from rfl, ofL_app, ofL_app]; simp] at h
    exact h)
  obtain ⟨T, hT⟩ : ∃ T, T = runS (s0 0) m := ⟨_, rfl⟩
  have HT := Lib.hid hT
  have HIT := Lib.hid (show Inv T by rw [hT]; exact inv_run hIk m)
  have HRM : Hid (∀ W, Calls Try.prog 13 #[.agg #[.int .i64 0, .string ⟨#[]⟩, .string ⟨#[]⟩, .string ⟨#[]⟩], .string (ofL m)] W (SvV (.agg #[.int .i64 (T.c : Nat), .string (ofL T.n), .string (ofL T.a), .string (ofL T.p)]) W)) := Lib.hid (fun W => by
    have h := prun_c (s0 0) hIk (ofL m) (by rw [hzm]; omega) W
    rw [show toL (ofL m) = m from rfl, ← hT] at h
    exact h)
  have hgd := st_guard
  have hne : ∀ W, (binOp .neq 24 (.agg #[.int .i64 0, .string ⟨#[]⟩, .string ⟨#[]⟩, .string ⟨#[]⟩]) (.agg #[.int .i64 0, .string ⟨#[]⟩, .string ⟨#[]⟩, .string ⟨#[]⟩])).run Try.prog W = .ok (.bool false) W := fun W => st_pneq (s0 0) W
  have hq : ∀ W, (binOp .eql 24 (.agg #[.int .i64 0, .string ⟨#[]⟩, .string ⟨#[]⟩, .string ⟨#[]⟩]) (.agg #[.int .i64 0, .string ⟨#[]⟩, .string ⟨#[]⟩, .string ⟨#[]⟩])).run Try.prog W = .ok (.bool true) W := fun W => (st_eql (s0 0) (s0 0) W).trans (by rw [(stB_iff _ _).2 rfl])
  have HL := Lib.hid hl
  clear h0 hl hn1 hn2 ho hr hIk hT
  go_enter Try.func5, Try.ntmps5
  go_wp2_with fail
  go_loopw [25] (fun s25 wr => ∃ i : Nat, i ≤ n.length ∧ s25 = .int .i64 i ∧ Hid (wr = w)) (fun s25 _ => n.length - (intOf s25).toNat)
  case atStart => exact ⟨0, Nat.zero_le _, rfl, Lib.hid rfl⟩
  case round =>
    obtain ⟨i, hi, rfl, HW⟩ := hrel
    obtain rfl := HW.out
    by_cases hlt : i < n.length
    · obtain ⟨b, hb⟩ : ∃ b, n[i]? = some b := ⟨_, List.getElem?_eq_getElem hlt⟩
      have f5 := fun W => run_index_ofL n i b hb W
      have hbl := HL.out b (List.mem_of_getElem? hb)
      have h97 : ¬ (b.toNat : Int) < 97 := by omega
      have h122 : ¬ (122 : Int) < (b.toNat : Int) := by omega
      clear hb hbl
      go_wp2_with fail
      go_roundw
      case rel => exact ⟨i + 1, by omega, by go_num, Lib.hid trivial⟩
      case measure => simp [intOf]; omega
    · obtain rfl : i = n.length := by omega
      go_wp2_with (go_at_call 13; ((with_reducible refine (HR1.out _).mono ?_); rintro e w2 ⟨rfl, hb2⟩; have HKa := Lib.hid ((Blk.new w2 24 [.int .i64 0, .string ⟨#[]⟩, .string ⟨#[]⟩, .string ⟨#[]⟩]).alloc (.cells #[.int .i64 0, .string ⟨#[]⟩, .string ⟨#[]⟩, .string ⟨#[]⟩] 24)); have HMa := Lib.hid (blk_at1h w2 (.cells #[.int .i64 0, .string ⟨#[]⟩, .string ⟨#[]⟩, .string ⟨#[]⟩] 24) 24 [.int .i64 0, .string ⟨#[]⟩, .string ⟨#[]⟩, .string ⟨#[]⟩]); have HBa := Lib.hid ((hb2.trans (Bel.alloc w2 (.cells #[.int .i64 0, .string ⟨#[]⟩, .string ⟨#[]⟩, .string ⟨#[]⟩] 24))).trans (Bel.alloc _ (.cells #[.int .i64 0, .string ⟨#[]⟩, .string ⟨#[]⟩, .string ⟨#[]⟩] 24))); have hsz := hb2.size; have hb3 := hb2; clear hb2; obtain ⟨k0, k1, k2, k3⟩ := cells4 HKa.out; obtain ⟨m0, m1, m2, m3⟩ := cells4 HMa.out; obtain ⟨y0, y1, y2, y3⟩ := frees4 HMa.out))
      clear k0 k1 k2 k3 m0 m1 m2 m3 y0 y1 y2 y3
      generalize ((w2.alloc (.cells #[.int .i64 0, .string ⟨#[]⟩, .string ⟨#[]⟩, .string ⟨#[]⟩] 24)).alloc (.cells #[.int .i64 0, .string ⟨#[]⟩, .string ⟨#[]⟩, .string ⟨#[]⟩] 24)) = W at HKa HMa HBa ⊢
      generalize hb6 : w2.heap.size = b6 at HKa HMa ⊢
      go_loopw [58] (fun s58 wr => ∃ i : Nat, i ≤ m.length ∧ s58 = .int .i64 i ∧ Hid (wr = W) ∧ Hid (∀ x, x ∈ m.take i → x ≠ 60)) (fun s58 _ => m.length - (intOf s58).toNat)
      case atStart => exact ⟨0, Nat.zero_le _, rfl, Lib.hid rfl, Lib.hid (by simp)⟩
      case round =>
        obtain ⟨j, hj, rfl, HX, HL2⟩ := hrel
        obtain rfl := HX.out
        by_cases hlj : j < m.length
        · obtain ⟨b, hb⟩ : ∃ b, m[j]? = some b := ⟨_, List.getElem?_eq_getElem hlj⟩
          have f5 := fun W => run_index_ofL m j b hb W
          by_cases h60 : b = 60
          · subst h60
            clear hb
            go_wp2_with (go_at_call 7; ((with_reducible refine (HAL.out _).mono ?_); rintro e w1 ⟨rfl, hb1⟩))
            go_ret
            exact ⟨rfl, HBa.out.trans hb1⟩
          · have HL3 := Lib.hid (take_snoc15 HL2.out hb h60)
            have hc60 := cf h60 60 rfl
            clear hb h60
            go_wp2_with fail
            go_roundw
            case rel => exact ⟨j + 1, by omega, by go_num, Lib.hid trivial, HL3⟩
            case measure => simp [intOf]; omega
        · obtain rfl : j = m.length := by omega
          have hall := HL2.out
          rw [List.take_length] at hall
          obtain ⟨k0, k1, k2, k3⟩ := cells4 HKa.out
          have hT0 : T = s0 0 := HT.out.trans (in_text hall)
          have HRN : Hid (∀ W, Calls Try.prog 13 #[.agg #[.int .i64 0, .string ⟨#[]⟩, .string ⟨#[]⟩, .string ⟨#[]⟩], .string (ofL m)] W (SvV (.agg #[.int .i64 0, .string ⟨#[]⟩, .string ⟨#[]⟩, .string ⟨#[]⟩]) W)) := Lib.hid (fun W => by have h := HRM.out W; rw [hT0] at h; exact h)
          clear hall hT0
          go_wp2_with (first | (go_at_call 13; ((with_reducible refine (HRN.out _).mono ?_); rintro e w4 ⟨rfl, hb4⟩; have HK4 := Lib.hid ((HKa.out.belh hb4).alloc (.cells #[.int .i64 0, .string ⟨#[]⟩, .string ⟨#[]⟩, .string ⟨#[]⟩] 24)); have HM4 := Lib.hid ((HMa.out.belh hb4).alloc (.cells #[.int .i64 0, .string ⟨#[]⟩, .string ⟨#[]⟩, .string ⟨#[]⟩] 24)); have HB4 := Lib.hid ((HBa.out.trans hb4).trans (Bel.alloc w4 (.cells #[.int .i64 0, .string ⟨#[]⟩, .string ⟨#[]⟩, .string ⟨#[]⟩] 24))); have HT4 := Lib.hid (Blk.new w4 24 [.int .i64 0, .string ⟨#[]⟩, .string ⟨#[]⟩, .string ⟨#[]⟩]); clear k0 k1 k2 k3 hb4; obtain ⟨m0, m1, m2, m3⟩ := cells4 HM4.out)) | (go_at_call 7; ((with_reducible refine (HAL.out _).mono ?_); rintro e w5 ⟨rfl, hb5⟩; have HK5 := Lib.hid (HK4.out.belh hb5); have HM5 := Lib.hid (HM4.out.belh hb5); have HT5 := Lib.hid (HT4.out.belh hb5); have HB5 := Lib.hid (HB4.out.trans hb5); clear hb5; obtain ⟨k0, k1, k2, k3⟩ := cells4 HK5.out; obtain ⟨n0, n1, n2, n3⟩ := cells4 HM5.out; obtain ⟨t0, t1, t2, t3⟩ := cells4 HT5.out)))
          go_ret
          exact ⟨rfl, HB5.out⟩
set_option maxRecDepth 100000 in
set_option maxHeartbeats 12800000 in
theorem ec_16 (n m : List UInt8) (w : World) (h1 : n.length ≤ 30) (h2 : m.length ≤ 1000) (h0 : n ≠ []) (hl : lowerL n) (hn : n = scriptL) : Calls Try.prog 5 #[.string (ofL n), .string (ofL m)] w fun e w' => e = .returned (.bool true) ∧ Below w.heap.size w w' := by
  have HAL := Lib.hid (fun W => alive_c W)
  have hzn : (ofL n).size = n.length := rfl
  have hzm : (ofL m).size = m.length := rfl
  have i1 : ¬ (30 : Int) < (n.length : Int) := by omega
  have i2 : ¬ (1000 : Int) < (m.length : Int) := by omega
  have i3 : ((ofL n).toList == []) = false := pf h0
  have s1 : ((ofL n).toList == [115, 99, 114, 105, 112, 116]) = true := pt hn
  have ho : openS n = s0 16 := by unfold openS; rw [if_pos hn]
  have hr := (elem_run hl h0).trans ho
  have hIk : Inv (s0 16) := by have := inv_run Inv.init (60 :: (n ++ idL)); rwa [hr] at this
  have HR1 : Hid (∀ W, Calls Try.prog 13 #[.agg #[.int .i64 0, .string ⟨#[]⟩, .string ⟨#[]⟩, .string ⟨#[]⟩], .string (⟨#[60]⟩ ++ ofL n ++ ⟨#[32, 105, 100, 61, 34, 120, 34, 62]⟩)] W (SvV (.agg #[.int .i64 16, .string ⟨#[]⟩, .string ⟨#[]⟩, .string ⟨#[]⟩]) W)) := Lib.hid (fun W => by
    have h := run0 (60 :: (n ++ idL)) (s0 16) hr (by simp [idL]; omega) W
    rw [show ofL (60 :: (n ++ idL)) = ⟨#[60]⟩ ++ ofL n ++ ⟨#[32, 105, 100, 61, 34, 120, 34, 62]⟩ from by rw [show (⟨#[60]⟩ : ByteArray) = ofL [60] from rfl, show (⟨#[32, 105, 100, 61, 34, 120, 34, 62]⟩ : ByteArray) = ofL idL from rfl, ofL_app, ofL_app]; simp] at h
    exact h)
  obtain ⟨T, hT⟩ : ∃ T, T = runS (s0 16) m := ⟨_, rfl⟩
  have HT := Lib.hid hT
  have HIT := Lib.hid (show Inv T by rw [hT]; exact inv_run hIk m)
  have HRM : Hid (∀ W, Calls Try.prog 13 #[.agg #[.int .i64 16, .string ⟨#[]⟩, .string ⟨#[]⟩, .string ⟨#[]⟩], .string (ofL m)] W (SvV (.agg #[.int .i64 (T.c : Nat), .string (ofL T.n), .string (ofL T.a), .string (ofL T.p)]) W)) := Lib.hid (fun W => by
    have h := prun_c (s0 16) hIk (ofL m) (by rw [hzm]; omega) W
    rw [show toL (ofL m) = m from rfl, ← hT] at h
    exact h)
  have HRE : Hid (InCode 16 T → ∀ W, Calls Try.prog 13 #[.agg #[.int .i64 (T.c : Nat), .string (ofL T.n), .string (ofL T.a), .string (ofL T.p)], .string (⟨#[60, 47]⟩ ++ ofL n ++ ⟨#[62]⟩)] W (SvV (.agg #[.int .i64 0, .string ⟨#[]⟩, .string ⟨#[]⟩, .string ⟨#[]⟩]) W)) := Lib.hid (fun hc W => by
    have h := prun_c T HIT.out (ofL (endL 16 ++ [62])) (by decide) W
    rw [show toL (ofL (endL 16 ++ [62])) = endL 16 ++ [62] from rfl, code_end (by decide) hc] at h
    rw [show ofL (endL 16 ++ [62]) = ⟨#[60, 47]⟩ ++ ofL n ++ ⟨#[62]⟩ from by rw [hn]; rfl] at h
    exact h)
  have hgd := st_guard
  have hne : ∀ W, (binOp .neq 24 (.agg #[.int .i64 16, .string ⟨#[]⟩, .string ⟨#[]⟩, .string ⟨#[]⟩]) (.agg #[.int .i64 16, .string ⟨#[]⟩, .string ⟨#[]⟩, .string ⟨#[]⟩])).run Try.prog W = .ok (.bool false) W := fun W => st_pneq (s0 16) W
  have hq : ∀ W, (binOp .eql 24 (.agg #[.int .i64 0, .string ⟨#[]⟩, .string ⟨#[]⟩, .string ⟨#[]⟩]) (.agg #[.int .i64 0, .string ⟨#[]⟩, .string ⟨#[]⟩, .string ⟨#[]⟩])).run Try.prog W = .ok (.bool true) W := fun W => (st_eql (s0 0) (s0 0) W).trans (by rw [(stB_iff _ _).2 rfl])
  have HL := Lib.hid hl
  clear h0 hl hn ho hr hIk hT
  go_enter Try.func5, Try.ntmps5
  go_wp2_with fail
  go_loopw [25] (fun s25 wr => ∃ i : Nat, i ≤ n.length ∧ s25 = .int .i64 i ∧ Hid (wr = w)) (fun s25 _ => n.length - (intOf s25).toNat)
  case atStart => exact ⟨0, Nat.zero_le _, rfl, Lib.hid rfl⟩
  case round =>
    obtain ⟨i, hi, rfl, HW⟩ := hrel
    obtain rfl := HW.out
    by_cases hlt : i < n.length
    · obtain ⟨b, hb⟩ : ∃ b, n[i]? = some b := ⟨_, List.getElem?_eq_getElem hlt⟩
      have f5 := fun W => run_index_ofL n i b hb W
      have hbl := HL.out b (List.mem_of_getElem? hb)
      have h97 : ¬ (b.toNat : Int) < 97 := by omega
      have h122 : ¬ (122 : Int) < (b.toNat : Int) := by omega
      clear hb hbl
      go_wp2_with fail
      go_roundw
      case rel => exact ⟨i + 1, by omega, by go_num, Lib.hid trivial⟩
      case measure => simp [intOf]; omega
    · obtain rfl : i = n.length := by omega
      go_wp2_with (go_at_call 13; ((with_reducible refine (HR1.out _).mono ?_); rintro e w2 ⟨rfl, hb2⟩; have HKa := Lib.hid ((Blk.new w2 24 [.int .i64 16, .string ⟨#[]⟩, .string ⟨#[]⟩, .string ⟨#[]⟩]).alloc (.cells #[.int .i64 0, .string ⟨#[]⟩, .string ⟨#[]⟩, .string ⟨#[]⟩] 24)); have HMa := Lib.hid (blk_at1h w2 (.cells #[.int .i64 16, .string ⟨#[]⟩, .string ⟨#[]⟩, .string ⟨#[]⟩] 24) 24 [.int .i64 0, .string ⟨#[]⟩, .string ⟨#[]⟩, .string ⟨#[]⟩]); have HBa := Lib.hid ((hb2.trans (Bel.alloc w2 (.cells #[.int .i64 16, .string ⟨#[]⟩, .string ⟨#[]⟩, .string ⟨#[]⟩] 24))).trans (Bel.alloc _ (.cells #[.int .i64 0, .string ⟨#[]⟩, .string ⟨#[]⟩, .string ⟨#[]⟩] 24))); have hsz := hb2.size; have hb3 := hb2; clear hb2; obtain ⟨k0, k1, k2, k3⟩ := cells4 HKa.out; obtain ⟨m0, m1, m2, m3⟩ := cells4 HMa.out; obtain ⟨y0, y1, y2, y3⟩ := frees4 HMa.out; have HKb := Lib.hid ((Blk.new w2 24 [.int .i64 16, .string ⟨#[]⟩, .string ⟨#[]⟩, .string ⟨#[]⟩]).alloc (.cells #[.int .i64 16, .string ⟨#[]⟩, .string ⟨#[]⟩, .string ⟨#[]⟩] 24)); have HMb := Lib.hid (blk_at1h w2 (.cells #[.int .i64 16, .string ⟨#[]⟩, .string ⟨#[]⟩, .string ⟨#[]⟩] 24) 24 [.int .i64 16, .string ⟨#[]⟩, .string ⟨#[]⟩, .string ⟨#[]⟩]); have HBb := Lib.hid ((hb3.trans (Bel.alloc w2 (.cells #[.int .i64 16, .string ⟨#[]⟩, .string ⟨#[]⟩, .string ⟨#[]⟩] 24))).trans (Bel.alloc _ (.cells #[.int .i64 16, .string ⟨#[]⟩, .string ⟨#[]⟩, .string ⟨#[]⟩] 24))); clear hb3; obtain ⟨n0, n1, n2, n3⟩ := cells4 HKb.out; obtain ⟨q0, q1, q2, q3⟩ := cells4 HMb.out))
      clear k0 k1 k2 k3 m0 m1 m2 m3 y0 y1 y2 y3 n0 n1 n2 n3 q0 q1 q2 q3
      clear HKa HMa HBa
      generalize ((w2.alloc (.cells #[.int .i64 16, .string ⟨#[]⟩, .string ⟨#[]⟩, .string ⟨#[]⟩] 24)).alloc (.cells #[.int .i64 16, .string ⟨#[]⟩, .string ⟨#[]⟩, .string ⟨#[]⟩] 24)) = W at HKb HMb HBb ⊢
      generalize hb6 : w2.heap.size = b6 at HKb HMb ⊢
      go_loopw [58] (fun s58 wr => ∃ i : Nat, i ≤ m.length ∧ s58 = .int .i64 i ∧ Hid (wr = W) ∧ Hid (∀ x, x ∈ m.take i → x ≠ 60)) (fun s58 _ => m.length - (intOf s58).toNat)
      case atStart => exact ⟨0, Nat.zero_le _, rfl, Lib.hid rfl, Lib.hid (by simp)⟩
      case round =>
        obtain ⟨j, hj, rfl, HX, HL2⟩ := hrel
        obtain rfl := HX.out
        by_cases hlj : j < m.length
        · obtain ⟨b, hb⟩ : ∃ b, m[j]? = some b := ⟨_, List.getElem?_eq_getElem hlj⟩
          have f5 := fun W => run_index_ofL m j b hb W
          by_cases h60 : b = 60
          · subst h60
            clear hb
            go_wp2_with (go_at_call 7; ((with_reducible refine (HAL.out _).mono ?_); rintro e w1 ⟨rfl, hb1⟩))
            go_ret
            exact ⟨rfl, HBb.out.trans hb1⟩
          · have HL3 := Lib.hid (take_snoc15 HL2.out hb h60)
            have hc60 := cf h60 60 rfl
            clear hb h60
            go_wp2_with fail
            go_roundw
            case rel => exact ⟨j + 1, by omega, by go_num, Lib.hid trivial, HL3⟩
            case measure => simp [intOf]; omega
        · obtain rfl : j = m.length := by omega
          have hall := HL2.out
          rw [List.take_length] at hall
          obtain ⟨k0, k1, k2, k3⟩ := cells4 HKb.out
          have hC : InCode 16 T := by rw [HT.out]; exact in_code (by decide) code_start hall
          have HRX := Lib.hid (HRE.out hC)
          have hc1 : (16 : Int) ≤ (T.c : Int) := by obtain ⟨a, p, ha, _, e⟩ := hC; rw [e]; show (16 : Int) ≤ ((16 + a : Nat) : Int); omega
          have hc2 : (T.c : Int) ≤ 18 := by obtain ⟨a, p, ha, _, e⟩ := hC; rw [e]; show ((16 + a : Nat) : Int) ≤ 18; omega
          clear hall hC
          go_wp2_with (first | (go_at_call 13; ((with_reducible refine (HRM.out _).mono ?_); rintro e w4 ⟨rfl, hb4⟩; have HK4 := Lib.hid ((HKb.out.belh hb4).alloc (.cells #[.int .i64 (T.c : Nat), .string (ofL T.n), .string (ofL T.a), .string (ofL T.p)] 24)); have HM4 := Lib.hid ((HMb.out.belh hb4).alloc (.cells #[.int .i64 (T.c : Nat), .string (ofL T.n), .string (ofL T.a), .string (ofL T.p)] 24)); have HB4 := Lib.hid ((HBb.out.trans hb4).trans (Bel.alloc w4 (.cells #[.int .i64 (T.c : Nat), .string (ofL T.n), .string (ofL T.a), .string (ofL T.p)] 24))); have HT4 := Lib.hid (Blk.new w4 24 [.int .i64 (T.c : Nat), .string (ofL T.n), .string (ofL T.a), .string (ofL T.p)]); clear k0 k1 k2 k3 hb4; obtain ⟨m0, m1, m2, m3⟩ := cells4 HM4.out)) | (go_at_call 7; ((with_reducible refine (HAL.out _).mono ?_); rintro e w5 ⟨rfl, hb5⟩; have HK5 := Lib.hid (HK4.out.belh hb5); have HM5 := Lib.hid (HM4.out.belh hb5); have HT5 := Lib.hid (HT4.out.belh hb5); have HB5 := Lib.hid (HB4.out.trans hb5); clear hb5; obtain ⟨k0, k1, k2, k3⟩ := cells4 HK5.out; obtain ⟨n0, n1, n2, n3⟩ := cells4 HM5.out; obtain ⟨t0, t1, t2, t3⟩ := cells4 HT5.out)) | (go_at_call 13; ((with_reducible refine (HRX.out _).mono ?_); rintro e w6 ⟨rfl, hb6'⟩; have HB6 := Lib.hid (HB5.out.trans hb6'); clear hb6')))
          go_ret
          exact ⟨rfl, HB6.out⟩
set_option maxRecDepth 100000 in
set_option maxHeartbeats 12800000 in
theorem ec_19 (n m : List UInt8) (w : World) (h1 : n.length ≤ 30) (h2 : m.length ≤ 1000) (h0 : n ≠ []) (hl : lowerL n) (hn : n = styleL) : Calls Try.prog 5 #[.string (ofL n), .string (ofL m)] w fun e w' => e = .returned (.bool true) ∧ Below w.heap.size w w' := by
  have HAL := Lib.hid (fun W => alive_c W)
  have hzn : (ofL n).size = n.length := rfl
  have hzm : (ofL m).size = m.length := rfl
  have i1 : ¬ (30 : Int) < (n.length : Int) := by omega
  have i2 : ¬ (1000 : Int) < (m.length : Int) := by omega
  have i3 : ((ofL n).toList == []) = false := pf h0
  have s1 : ((ofL n).toList == [115, 99, 114, 105, 112, 116]) = false := pf (by rw [hn]; decide)
  have s2 : ((ofL n).toList == [115, 116, 121, 108, 101]) = true := pt hn
  have ho : openS n = s0 19 := by rw [hn]; rfl
  have hr := (elem_run hl h0).trans ho
  have hIk : Inv (s0 19) := by have := inv_run Inv.init (60 :: (n ++ idL)); rwa [hr] at this
  have HR1 : Hid (∀ W, Calls Try.prog 13 #[.agg #[.int .i64 0, .string ⟨#[]⟩, .string ⟨#[]⟩, .string ⟨#[]⟩], .string (⟨#[60]⟩ ++ ofL n ++ ⟨#[32, 105, 100, 61, 34, 120, 34, 62]⟩)] W (SvV (.agg #[.int .i64 19, .string ⟨#[]⟩, .string ⟨#[]⟩, .string ⟨#[]⟩]) W)) := Lib.hid (fun W => by
    have h := run0 (60 :: (n ++ idL)) (s0 19) hr (by simp [idL]; omega) W
    rw [show ofL (60 :: (n ++ idL)) = ⟨#[60]⟩ ++ ofL n ++ ⟨#[32, 105, 100, 61, 34, 120, 34, 62]⟩ from by rw [show (⟨#[60]⟩ : ByteArray) = ofL [60] from rfl, show (⟨#[32, 105, 100, 61, 34, 120, 34, 62]⟩ : ByteArray) = ofL idL from rfl, ofL_app, ofL_app]; simp] at h
    exact h)
  obtain ⟨T, hT⟩ : ∃ T, T = runS (s0 19) m := ⟨_, rfl⟩
  have HT := Lib.hid hT
  have HIT := Lib.hid (show Inv T by rw [hT]; exact inv_run hIk m)
  have HRM : Hid (∀ W, Calls Try.prog 13 #[.agg #[.int .i64 19, .string ⟨#[]⟩, .string ⟨#[]⟩, .string ⟨#[]⟩], .string (ofL m)] W (SvV (.agg #[.int .i64 (T.c : Nat), .string (ofL T.n), .string (ofL T.a), .string (ofL T.p)]) W)) := Lib.hid (fun W => by
    have h := prun_c (s0 19) hIk (ofL m) (by rw [hzm]; omega) W
    rw [show toL (ofL m) = m from rfl, ← hT] at h
    exact h)
  have HRE : Hid (InCode 19 T → ∀ W, Calls Try.prog 13 #[.agg #[.int .i64 (T.c : Nat), .string (ofL T.n), .string (ofL T.a), .string (ofL T.p)], .string (⟨#[60, 47]⟩ ++ ofL n ++ ⟨#[62]⟩)] W (SvV (.agg #[.int .i64 0, .string ⟨#[]⟩, .string ⟨#[]⟩, .string ⟨#[]⟩]) W)) := Lib.hid (fun hc W => by
    have h := prun_c T HIT.out (ofL (endL 19 ++ [62])) (by decide) W
    rw [show toL (ofL (endL 19 ++ [62])) = endL 19 ++ [62] from rfl, code_end (by decide) hc] at h
    rw [show ofL (endL 19 ++ [62]) = ⟨#[60, 47]⟩ ++ ofL n ++ ⟨#[62]⟩ from by rw [hn]; rfl] at h
    exact h)
  have hgd := st_guard
  have hne : ∀ W, (binOp .neq 24 (.agg #[.int .i64 19, .string ⟨#[]⟩, .string ⟨#[]⟩, .string ⟨#[]⟩]) (.agg #[.int .i64 19, .string ⟨#[]⟩, .string ⟨#[]⟩, .string ⟨#[]⟩])).run Try.prog W = .ok (.bool false) W := fun W => st_pneq (s0 19) W
  have hq : ∀ W, (binOp .eql 24 (.agg #[.int .i64 0, .string ⟨#[]⟩, .string ⟨#[]⟩, .string ⟨#[]⟩]) (.agg #[.int .i64 0, .string ⟨#[]⟩, .string ⟨#[]⟩, .string ⟨#[]⟩])).run Try.prog W = .ok (.bool true) W := fun W => (st_eql (s0 0) (s0 0) W).trans (by rw [(stB_iff _ _).2 rfl])
  have HL := Lib.hid hl
  clear h0 hl hn ho hr hIk hT
  go_enter Try.func5, Try.ntmps5
  go_wp2_with fail
  go_loopw [25] (fun s25 wr => ∃ i : Nat, i ≤ n.length ∧ s25 = .int .i64 i ∧ Hid (wr = w)) (fun s25 _ => n.length - (intOf s25).toNat)
  case atStart => exact ⟨0, Nat.zero_le _, rfl, Lib.hid rfl⟩
  case round =>
    obtain ⟨i, hi, rfl, HW⟩ := hrel
    obtain rfl := HW.out
    by_cases hlt : i < n.length
    · obtain ⟨b, hb⟩ : ∃ b, n[i]? = some b := ⟨_, List.getElem?_eq_getElem hlt⟩
      have f5 := fun W => run_index_ofL n i b hb W
      have hbl := HL.out b (List.mem_of_getElem? hb)
      have h97 : ¬ (b.toNat : Int) < 97 := by omega
      have h122 : ¬ (122 : Int) < (b.toNat : Int) := by omega
      clear hb hbl
      go_wp2_with fail
      go_roundw
      case rel => exact ⟨i + 1, by omega, by go_num, Lib.hid trivial⟩
      case measure => simp [intOf]; omega
    · obtain rfl : i = n.length := by omega
      go_wp2_with (go_at_call 13; ((with_reducible refine (HR1.out _).mono ?_); rintro e w2 ⟨rfl, hb2⟩; have HKa := Lib.hid ((Blk.new w2 24 [.int .i64 19, .string ⟨#[]⟩, .string ⟨#[]⟩, .string ⟨#[]⟩]).alloc (.cells #[.int .i64 0, .string ⟨#[]⟩, .string ⟨#[]⟩, .string ⟨#[]⟩] 24)); have HMa := Lib.hid (blk_at1h w2 (.cells #[.int .i64 19, .string ⟨#[]⟩, .string ⟨#[]⟩, .string ⟨#[]⟩] 24) 24 [.int .i64 0, .string ⟨#[]⟩, .string ⟨#[]⟩, .string ⟨#[]⟩]); have HBa := Lib.hid ((hb2.trans (Bel.alloc w2 (.cells #[.int .i64 19, .string ⟨#[]⟩, .string ⟨#[]⟩, .string ⟨#[]⟩] 24))).trans (Bel.alloc _ (.cells #[.int .i64 0, .string ⟨#[]⟩, .string ⟨#[]⟩, .string ⟨#[]⟩] 24))); have hsz := hb2.size; have hb3 := hb2; clear hb2; obtain ⟨k0, k1, k2, k3⟩ := cells4 HKa.out; obtain ⟨m0, m1, m2, m3⟩ := cells4 HMa.out; obtain ⟨y0, y1, y2, y3⟩ := frees4 HMa.out; have HKb := Lib.hid ((Blk.new w2 24 [.int .i64 19, .string ⟨#[]⟩, .string ⟨#[]⟩, .string ⟨#[]⟩]).alloc (.cells #[.int .i64 19, .string ⟨#[]⟩, .string ⟨#[]⟩, .string ⟨#[]⟩] 24)); have HMb := Lib.hid (blk_at1h w2 (.cells #[.int .i64 19, .string ⟨#[]⟩, .string ⟨#[]⟩, .string ⟨#[]⟩] 24) 24 [.int .i64 19, .string ⟨#[]⟩, .string ⟨#[]⟩, .string ⟨#[]⟩]); have HBb := Lib.hid ((hb3.trans (Bel.alloc w2 (.cells #[.int .i64 19, .string ⟨#[]⟩, .string ⟨#[]⟩, .string ⟨#[]⟩] 24))).trans (Bel.alloc _ (.cells #[.int .i64 19, .string ⟨#[]⟩, .string ⟨#[]⟩, .string ⟨#[]⟩] 24))); clear hb3; obtain ⟨n0, n1, n2, n3⟩ := cells4 HKb.out; obtain ⟨q0, q1, q2, q3⟩ := cells4 HMb.out))
      clear k0 k1 k2 k3 m0 m1 m2 m3 y0 y1 y2 y3 n0 n1 n2 n3 q0 q1 q2 q3
      clear HKa HMa HBa
      generalize ((w2.alloc (.cells #[.int .i64 19, .string ⟨#[]⟩, .string ⟨#[]⟩, .string ⟨#[]⟩] 24)).alloc (.cells #[.int .i64 19, .string ⟨#[]⟩, .string ⟨#[]⟩, .string ⟨#[]⟩] 24)) = W at HKb HMb HBb ⊢
      generalize hb6 : w2.heap.size = b6 at HKb HMb ⊢
      go_loopw [58] (fun s58 wr => ∃ i : Nat, i ≤ m.length ∧ s58 = .int .i64 i ∧ Hid (wr = W) ∧ Hid (∀ x, x ∈ m.take i → x ≠ 60)) (fun s58 _ => m.length - (intOf s58).toNat)
      case atStart => exact ⟨0, Nat.zero_le _, rfl, Lib.hid rfl, Lib.hid (by simp)⟩
      case round =>
        obtain ⟨j, hj, rfl, HX, HL2⟩ := hrel
        obtain rfl := HX.out
        by_cases hlj : j < m.length
        · obtain ⟨b, hb⟩ : ∃ b, m[j]? = some b := ⟨_, List.getElem?_eq_getElem hlj⟩
          have f5 := fun W => run_index_ofL m j b hb W
          by_cases h60 : b = 60
          · subst h60
            clear hb
            go_wp2_with (go_at_call 7; ((with_reducible refine (HAL.out _).mono ?_); rintro e w1 ⟨rfl, hb1⟩))
            go_ret
            exact ⟨rfl, HBb.out.trans hb1⟩
          · have HL3 := Lib.hid (take_snoc15 HL2.out hb h60)
            have hc60 := cf h60 60 rfl
            clear hb h60
            go_wp2_with fail
            go_roundw
            case rel => exact ⟨j + 1, by omega, by go_num, Lib.hid trivial, HL3⟩
            case measure => simp [intOf]; omega
        · obtain rfl : j = m.length := by omega
          have hall := HL2.out
          rw [List.take_length] at hall
          obtain ⟨k0, k1, k2, k3⟩ := cells4 HKb.out
          have hC : InCode 19 T := by rw [HT.out]; exact in_code (by decide) code_start hall
          have HRX := Lib.hid (HRE.out hC)
          have hc1 : (19 : Int) ≤ (T.c : Int) := by obtain ⟨a, p, ha, _, e⟩ := hC; rw [e]; show (19 : Int) ≤ ((19 + a : Nat) : Int); omega
          have hc2 : (T.c : Int) ≤ 21 := by obtain ⟨a, p, ha, _, e⟩ := hC; rw [e]; show ((19 + a : Nat) : Int) ≤ 21; omega
          clear hall hC
          go_wp2_with (first | (go_at_call 13; ((with_reducible refine (HRM.out _).mono ?_); rintro e w4 ⟨rfl, hb4⟩; have HK4 := Lib.hid ((HKb.out.belh hb4).alloc (.cells #[.int .i64 (T.c : Nat), .string (ofL T.n), .string (ofL T.a), .string (ofL T.p)] 24)); have HM4 := Lib.hid ((HMb.out.belh hb4).alloc (.cells #[.int .i64 (T.c : Nat), .string (ofL T.n), .string (ofL T.a), .string (ofL T.p)] 24)); have HB4 := Lib.hid ((HBb.out.trans hb4).trans (Bel.alloc w4 (.cells #[.int .i64 (T.c : Nat), .string (ofL T.n), .string (ofL T.a), .string (ofL T.p)] 24))); have HT4 := Lib.hid (Blk.new w4 24 [.int .i64 (T.c : Nat), .string (ofL T.n), .string (ofL T.a), .string (ofL T.p)]); clear k0 k1 k2 k3 hb4; obtain ⟨m0, m1, m2, m3⟩ := cells4 HM4.out)) | (go_at_call 7; ((with_reducible refine (HAL.out _).mono ?_); rintro e w5 ⟨rfl, hb5⟩; have HK5 := Lib.hid (HK4.out.belh hb5); have HM5 := Lib.hid (HM4.out.belh hb5); have HT5 := Lib.hid (HT4.out.belh hb5); have HB5 := Lib.hid (HB4.out.trans hb5); clear hb5; obtain ⟨k0, k1, k2, k3⟩ := cells4 HK5.out; obtain ⟨n0, n1, n2, n3⟩ := cells4 HM5.out; obtain ⟨t0, t1, t2, t3⟩ := cells4 HT5.out)) | (go_at_call 13; ((with_reducible refine (HRX.out _).mono ?_); rintro e w6 ⟨rfl, hb6'⟩; have HB6 := Lib.hid (HB5.out.trans hb6'); clear hb6')))
          go_ret
          exact ⟨rfl, HB6.out⟩
theorem ecLaw (a b : ByteArray) (w : World) (ha : a.size ≤ maxLen) (hb : b.size ≤ maxLen) : Calls Try.prog 5 #[.string a, .string b] w fun e w' => e = .returned (.bool true) ∧ Below w.heap.size w w' := by
  rw [← ofL_toL a, ← ofL_toL b]
  by_cases h1 : 30 < (toL a).length
  · exact ec_g1 _ _ w h1
  by_cases h2 : 1000 < (toL b).length
  · exact ec_g2 _ _ w (by omega) h2
  by_cases h0 : toL a = []
  · exact ec_g3 _ _ w (by omega) (by omega) h0
  by_cases hl : lowerL (toL a)
  · by_cases hs : toL a = scriptL
    · exact ec_16 _ _ w (by omega) (by omega) h0 hl hs
    by_cases ht : toL a = styleL
    · exact ec_19 _ _ w (by omega) (by omega) h0 hl ht
    exact ec_0 _ _ w (by omega) (by omega) h0 hl hs ht
  · exact ec_low _ _ w (by omega) (by omega) h0 hl
end Go.Proofs.Ytjfnhlmmflammaa
