/-
  Contract of the reference's one of layer 6.
-/
import Derived.Test.YtbpmhleokmcggaaDoorValue6
import Derived.Test.YtbpmhleokmcggaaDoorUniEnc
namespace Go.Proofs.YtbpmhleokmcggaaDoor
open Go.RowKit Go.BigFrame
set_option linter.unusedVariables false
set_option linter.unusedSimpArgs false

theorem and63 (r : Int) (h0 : 0 ≤ r) (h1 : r < 2147483648) : bits .and .i32 r 63 = r % 64 := bits_mask .i32 31 (by decide) wraps_i32 6 (by decide) r h0 h1
theorem many_string (l : List UInt8) (cs : Array Value) (k : Nat) (h : cs = (vbs l).toArray) (hk : l.length = k) (W : World) :
    (convert 34 9 (.slice (some ⟨W.heap.size, 0, none⟩) k k)).run Tryd.prog (W.alloc (.cells cs 5)) = .ok (.string ⟨l.toArray⟩) (W.alloc (.cells cs 5)) := by
  subst h
  have hr := Reads.of_blk (Blk.new W 5 (vbs l)) 0 k (by rw [vbs_length]; omega) (Nat.lt_succ_self _)
  rw [List.drop_zero, List.take_of_length_le (by rw [vbs_length]; omega)] at hr
  exact run_string_of (l := l) Tryd.underlying34 Tryd.underlying5 Tryd.underlying9 hr k
theorem vb_of {n : Nat} {e : Int} (h : n < 256) (he : e = n) : Value.int .u8 e = vb (UInt8.ofNat n) := by
  unfold vb
  rw [u8n h, he]
theorem enc1 {c : Nat} {r : Int} (hr : r = c) (h : c < 128) : #[Value.int .u8 r] = (vbs (encN c)).toArray ∧ (encN c).length = 1 := by
  unfold encN
  rw [if_pos h]
  refine ⟨?_, rfl⟩
  rw [vb_of (n := c) (by omega) hr]
  rfl
theorem enc2 {c : Nat} {r : Int} (hr : r = c) (h1 : ¬ c < 128) (h : c < 2048) : #[Value.int .u8 (192 + r / 64), Value.int .u8 (128 + r % 64)] = (vbs (encN c)).toArray ∧ (encN c).length = 2 := by
  unfold encN
  rw [if_neg h1, if_pos h]
  refine ⟨?_, rfl⟩
  rw [vb_of (n := 192 + c / 64) (by omega) (by omega), vb_of (n := 128 + c % 64) (by omega) (by omega)]
  rfl
theorem enc3 {c : Nat} {r : Int} (hr : r = c) (h1 : ¬ c < 128) (h2 : ¬ c < 2048) (h : c < 65536) : #[Value.int .u8 (224 + r / 4096), Value.int .u8 (128 + r / 64 % 64), Value.int .u8 (128 + r % 64)] = (vbs (encN c)).toArray ∧ (encN c).length = 3 := by
  unfold encN
  rw [if_neg h1, if_neg h2, if_pos h]
  refine ⟨?_, rfl⟩
  rw [vb_of (n := 224 + c / 4096) (by omega) (by omega), vb_of (n := 128 + c / 64 % 64) (by omega) (by omega), vb_of (n := 128 + c % 64) (by omega) (by omega)]
  rfl
theorem enc4 {c : Nat} {r : Int} (hr : r = c) (h1 : ¬ c < 128) (h2 : ¬ c < 2048) (h3 : ¬ c < 65536) (h : c ≤ 1114111) : #[Value.int .u8 (240 + r / 262144), Value.int .u8 (128 + r / 4096 % 64), Value.int .u8 (128 + r / 64 % 64), Value.int .u8 (128 + r % 64)] = (vbs (encN c)).toArray ∧ (encN c).length = 4 := by
  unfold encN
  rw [if_neg h1, if_neg h2, if_neg h3]
  refine ⟨?_, rfl⟩
  rw [vb_of (n := 240 + c / 262144) (by omega) (by omega), vb_of (n := 128 + c / 4096 % 64) (by omega) (by omega), vb_of (n := 128 + c / 64 % 64) (by omega) (by omega), vb_of (n := 128 + c % 64) (by omega) (by omega)]
  rfl
set_option maxRecDepth 100000 in
set_option maxHeartbeats 1600000 in
theorem one_valid {w : World} (r : Int) (c : Nat) (hr : r = c) (hc : okC c) :
    Calls Tryd.prog 26 #[.int .i32 r] w fun e w' => e = .returned (.string ⟨(encN c).toArray⟩) ∧ Only [] w w' := by
  unfold okC at hc
  have g0 : ¬ (r < 0) := by omega
  have gm : ¬ (1114111 < r) := by omega
  by_cases c1 : c < 128
  · have c1i : r < 128 := by omega
    have hs : ¬ (55296 ≤ r) := by omega
    have he := enc1 hr c1
    have hcv := many_string _ _ _ he.1 he.2
    generalize encN c = E at *
    clear hr hc c1 he
    go_enter Tryd.func26, Tryd.ntmps26
    go_wp2
    go_ret
    exact ⟨rfl, (Only.refl _ _).alloc _⟩
  have c1i : ¬ (r < 128) := by omega
  have a0 := and63 r (by omega) (by omega)
  by_cases c2 : c < 2048
  · have c2i : r < 2048 := by omega
    have hs : ¬ (55296 ≤ r) := by omega
    have he := enc2 hr c1 c2
    have hcv := many_string _ _ _ he.1 he.2
    generalize encN c = E at *
    clear hr hc c1 c2 he
    go_enter Tryd.func26, Tryd.ntmps26
    go_wp2
    go_ret
    exact ⟨rfl, (Only.refl _ _).alloc _⟩
  have c2i : ¬ (r < 2048) := by omega
  have a1 := and63 (r / 64) (by omega) (by omega)
  by_cases c3 : c < 65536
  · have c3i : r < 65536 := by omega
    have he := enc3 hr c1 c2 c3
    have hcv := many_string _ _ _ he.1 he.2
    generalize encN c = E at *
    by_cases hs : 55296 ≤ r
    · have hs2 : ¬ (r ≤ 57343) := by omega
      clear hr hc c1 c2 he
      go_enter Tryd.func26, Tryd.ntmps26
      go_wp2
      go_ret
      exact ⟨rfl, (Only.refl _ _).alloc _⟩
    · clear hr hc c1 c2 he
      go_enter Tryd.func26, Tryd.ntmps26
      go_wp2
      go_ret
      exact ⟨rfl, (Only.refl _ _).alloc _⟩
  have c3i : ¬ (r < 65536) := by omega
  have a2 := and63 (r / 4096) (by omega) (by omega)
  have hs : 55296 ≤ r := by omega
  have hs2 : ¬ (r ≤ 57343) := by omega
  have he := enc4 hr c1 c2 c3 (by omega)
  have hcv := many_string _ _ _ he.1 he.2
  generalize encN c = E at *
  clear hr hc c1 c2 c3 he
  go_enter Tryd.func26, Tryd.ntmps26
  go_wp2
  go_ret
  exact ⟨rfl, (Only.refl _ _).alloc _⟩
theorem cp_bad {r : Int} (h : ¬ ((r < 55296 ∨ 57343 < r) ∧ 0 ≤ r ∧ r ≤ 1114111)) : cp r = 65533 := by
  unfold cp
  rw [if_neg]
  simp [Utf8.valid]
  omega
theorem cp_good {r : Int} (h : (r < 55296 ∨ 57343 < r) ∧ 0 ≤ r ∧ r ≤ 1114111) : r = (cp r : Nat) ∧ okC (cp r) := by
  refine ⟨?_, cp_ok r⟩
  unfold cp
  rw [if_pos (by simp [Utf8.valid]; omega)]
  omega
set_option maxRecDepth 100000 in
set_option maxHeartbeats 1600000 in
theorem one_c {w : World} (r : Int) :
    Calls Tryd.prog 26 #[.int .i32 r] w fun e w' => e = .returned (.string ⟨(encN (cp r)).toArray⟩) ∧ Only [] w w' := by
  by_cases hv : (r < 55296 ∨ 57343 < r) ∧ 0 ≤ r ∧ r ≤ 1114111
  · exact one_valid r (cp r) (cp_good hv).1 (cp_good hv).2
  rw [cp_bad hv]
  have a0 : bits .and .i32 65533 63 = 61 := by decide +kernel
  have a1 : bits .and .i32 1023 63 = 63 := by decide +kernel
  have he : encN 65533 = [239, 191, 189] := by decide +kernel
  have hcv := many_string (encN 65533) #[.int .u8 239, .int .u8 191, .int .u8 189] 3 (by rw [he]; rfl) (by rw [he]; rfl)
  clear he
  generalize encN 65533 = E at *
  by_cases g0 : r < 0
  · clear hv
    go_enter Tryd.func26, Tryd.ntmps26
    go_wp2
    go_ret
    exact ⟨rfl, (Only.refl _ _).alloc _⟩
  by_cases gm : 1114111 < r
  · clear hv
    go_enter Tryd.func26, Tryd.ntmps26
    go_wp2
    go_ret
    exact ⟨rfl, (Only.refl _ _).alloc _⟩
  have hs : 55296 ≤ r := by omega
  have hs2 : r ≤ 57343 := by omega
  clear hv
  go_enter Tryd.func26, Tryd.ntmps26
  go_wp2
  go_ret
  exact ⟨rfl, (Only.refl _ _).alloc _⟩
end Go.Proofs.YtbpmhleokmcggaaDoor
