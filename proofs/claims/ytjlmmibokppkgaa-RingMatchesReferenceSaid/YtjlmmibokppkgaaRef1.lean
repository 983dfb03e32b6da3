/-
  Contracts of the reference of ring, and of the small functions of its law's package.
-/
import Derived.Test.YtjlmmibokppkgaaRingLaw
import Derived.Test.YtjlmmibokppkgaaOpen
namespace Go.Proofs.Ytjlmmibokppkgaa
open Go.RowKit Go.BigFrame
set_option linter.unusedVariables false
set_option linter.unusedSimpArgs false
attribute [local go_sem ↓] sliced_cut run_min2 run_max2
attribute [local go_sem] cutA_zero

/-- The reference's buffer at block mr: capacity N, content c, its bytes in blocks from lo on. -/
def RefAt (w : World) (lo mr N : Nat) (c : List UInt8) : Prop :=
  ∃ A cap, Blk w mr 37 [.slice A c.length cap, .int .i64 N] ∧ c.length ≤ cap ∧ cap ≤ maxLen ∧ Reads w w.heap.size A c.length (vbs c) ∧ (0 < c.length → ∀ ad, A = some ad → lo ≤ ad.block ∧ ad.block ≠ mr)
theorem RefAt.only {w w' : World} {lo mr N : Nat} {c : List UInt8} {S : List Nat} (h : RefAt w lo mr N c) (k : Only S w w') (h1 : mr ∉ S) (h2 : ∀ i, i ∈ S → i < lo) : RefAt w' lo mr N c := by
  obtain ⟨A, cap, hb, hc, hm, hr, hA⟩ := h
  refine ⟨A, cap, hb.only k h1, hc, hm, (hr.only' k (Nat.le_refl _) (fun h0 ad e hs => ?_)).more k.size, hA⟩
  have := (hA h0 ad e).1
  have := h2 _ hs
  omega

/-! ### A nil ring buffer -/
section
set_option maxHeartbeats 400000
variable (w : World)
theorem nil_put (v : Value) : Calls Try.prog 9 #[.pointer none, v] w fun e w' => e = .returned (.int .i64 0) ∧ w = w' := by
  go_enter Try.func9, Try.ntmps9
  go_wp2
  go_ret
  exact ⟨rfl, rfl⟩
theorem nil_peek (n : Int) : Calls Try.prog 10 #[.pointer none, .int .i64 n] w fun e w' => e = .returned (.slice none 0 0) ∧ w = w' := by
  go_enter Try.func10, Try.ntmps10
  go_wp2
  go_ret
  exact ⟨rfl, rfl⟩
theorem nil_consume (n : Int) : Calls Try.prog 11 #[.pointer none, .int .i64 n] w fun e w' => e = .returned (.int .i64 1) ∧ w = w' := by
  go_enter Try.func11, Try.ntmps11
  go_wp2
  go_ret
  exact ⟨rfl, rfl⟩
theorem nil_len : Calls Try.prog 12 #[.pointer none] w fun e w' => e = .returned (.int .i64 0) ∧ w = w' := by
  go_enter Try.func12, Try.ntmps12
  go_wp2
  go_ret
  exact ⟨rfl, rfl⟩
theorem nil_cap : Calls Try.prog 14 #[.pointer none] w fun e w' => e = .returned (.int .i64 0) ∧ w = w' := by
  go_enter Try.func14, Try.ntmps14
  go_wp2
  go_ret
  exact ⟨rfl, rfl⟩
theorem nil_free : Calls Try.prog 13 #[.pointer none] w fun e w' => e = .returned (.int .i64 0) ∧ w = w' := by
  go_enter Try.func13, Try.ntmps13
  go_wp2_with (first
    | (go_at_call 14; refine (nil_cap _).mono ?_; rintro e w' ⟨rfl, rfl⟩)
    | (go_at_call 12; refine (nil_len _).mono ?_; rintro e w' ⟨rfl, rfl⟩))
  go_ret
  exact ⟨rfl, rfl⟩
end

/-! ### capacity -/
theorem capN (n : Int) : ∃ N : Nat, wrap64 (1 + wrap64 ((IntKind.u64.wrap n).tmod 65536)) = (N : Int) ∧ 1 ≤ N ∧ N ≤ 65536 := by
  have h0 : 0 ≤ IntKind.u64.wrap n := by
    rw [IntKind.wrap_u64]
    omega
  have h1 : (IntKind.u64.wrap n).tmod 65536 = (IntKind.u64.wrap n) % 65536 := Int.tmod_eq_emod_of_nonneg h0
  rw [h1]
  have h2 : wrap64 ((IntKind.u64.wrap n) % 65536) = (IntKind.u64.wrap n) % 65536 := IntWalk.wrap64_in _ (by omega)
  rw [h2]
  have h3 : wrap64 (1 + (IntKind.u64.wrap n) % 65536) = 1 + (IntKind.u64.wrap n) % 65536 := IntWalk.wrap64_in _ (by omega)
  rw [h3]
  exact ⟨(1 + (IntKind.u64.wrap n) % 65536).toNat, by omega, by omega, by omega⟩
set_option maxHeartbeats 400000 in
theorem capacity_any (n : Int) : ∃ N : Nat, 1 ≤ N ∧ N ≤ 65536 ∧ ∀ w : World, Calls Try.prog 18 #[.int .i64 n] w fun e w' => e = .returned (.int .i64 (N : Int)) ∧ w = w' := by
  obtain ⟨N, hN, h1, h2⟩ := capN n
  refine ⟨N, h1, h2, fun w => ?_⟩
  have HN := Lib.hid hN
  clear hN
  go_enter Try.func18, Try.ntmps18
  go_wp2
  go_ret
  refine ⟨?_, rfl⟩
  rw [← HN.out]
  rfl

/-! ### tooLarge -/
def SomeBool (w : World) (e : Ending) (w' : World) : Prop := ∃ v, e = .returned (.bool v) ∧ Only [] w w'
set_option maxHeartbeats 400000 in
theorem tooLarge_any {w : World} {B : Nat} {X : Option Addr} {len cap : Nat} {acts : List ActV} (h : ActsAt w B X len acts) (hB : B ≤ w.heap.size) (hlc : len ≤ cap) (hc : cap ≤ maxLen) :
    Calls Try.prog 15 #[.slice X len cap] w fun e w' => SomeBool w e w' := by
  unfold maxLen at hc
  go_enter Try.func15, Try.ntmps15
  go_wp2
  go_loopw [3, 8] (fun s i wr => ∃ (k : Nat) (z : Int), k ≤ len ∧ i = .int .i64 k ∧ s = .int .i64 z ∧ Only [] w wr) (fun _ i _ => len - (intOf i).toNat)
  case atStart => exact ⟨0, 0, Nat.zero_le _, rfl, rfl, Only.refl _ _⟩
  case round =>
    obtain ⟨k, z, hk, rfl, rfl, hO⟩ := hrel
    by_cases hlt : k < len
    · have hA := h.below (hO.to_below hB (by simp))
      obtain ⟨g, o, rfl, hg, hcell⟩ := hA.2.1 (by omega)
      have hkl : k < acts.length := by rw [h.1]; exact hlt
      obtain ⟨c1, c2, c3⟩ := hcell k acts[k] (List.getElem?_eq_getElem hkl)
      go_wp2
      go_roundw
      case rel => exact ⟨k + 1, _, by omega, by go_num, rfl, hO.alloc _⟩
      case measure => simp [intOf]; omega
    · go_wp2
      all_goals
        go_ret
        exact ⟨_, rfl, hO⟩

/-! ### The reference's Peek -/
theorem empty_own (w : World) : (w.alloc (.cells #[] 5)).ownsRow w.heap.size 5 1 (.slice (some ⟨w.heap.size, 0, none⟩) 0 0) 0 [] :=
  own_of_blk (Blk.new w 5 []) (Nat.le_refl _) 0 (by simp) (by simp)

def PeekPost (w : World) (m : Nat) (l : List UInt8) (e : Ending) (w' : World) : Prop := ∃ v, e = .returned v ∧ w'.ownsRow w.heap.size 5 1 v m (vbs l) ∧ Only [] w w'

set_option maxHeartbeats 400000 in
theorem ref_peek {w : World} {lo mr N : Nat} {c : List UInt8} (h : RefAt w lo mr N c) (n : Int) (m : Nat) (hm : m = (min n c.length).toNat) (hcl : c.length ≤ 65536) :
    Calls Try.prog 20 #[.pointer (some ⟨mr, 0, none⟩), .int .i64 n] w fun e w' => PeekPost w m (c.take m) e w' := by
  obtain ⟨A, cap, hb, hc, hcm, hr, hA⟩ := h
  obtain ⟨i0, hi, hz0, hz1, hz2⟩ := info_parts info_byte
  have c0 : w.cell? ⟨mr, 0, none⟩ = some (.slice A c.length cap) := hb.cell 0
  have c0' : (w.alloc (.cells #[] 5)).cell? ⟨mr, 0, none⟩ = some (.slice A c.length cap) := (hb.alloc _).cell 0
  have HOWN := Lib.hid (empty_own w)
  have hml : m ≤ c.length := by omega
  have hsrc : Reads (w.alloc (.cells #[] 5)) w.heap.size A m (vbs (c.take m)) := by
    have h1 := hr.cut_ (k := 0) (m := m) (c := cap) (by omega) hml hc
    rw [cutA_zero, List.drop_zero, Nat.sub_zero, ← vbs_take] at h1
    exact h1.only' ((Only.refl [] w).alloc _) (Nat.le_refl _) (by simp)
  have HS := Lib.hid hsrc
  have hb1 := Lib.hid (show 0 + m ≤ maxLen by unfold maxLen; omega)
  have hb2 := Lib.hid (show (0 + m) * 1 ≤ 140737488355328 by omega)
  have hb3 := Lib.hid (show w.heap.size ≤ (w.alloc (.cells #[] 5)).heap.size by simp)
  clear hsrc
  have h3 : (n < 0 ∧ m = 0) ∨ ((0 ≤ n ∧ (c.length : Int) < n) ∧ m = c.length) ∨ ((0 ≤ n ∧ n ≤ (c.length : Int)) ∧ n = m) := by omega
  clear hm
  rcases h3 with ⟨h1, rfl⟩ | ⟨⟨h1, h2⟩, rfl⟩ | ⟨⟨h1, h2⟩, rfl⟩
  all_goals
    go_enter Try.func20, Try.ntmps20
    go_wp2_with (first | (with_reducible refine wp_append rfl (.tmp 19) (.tmp 25) 25 rfl w.heap.size 5 i0 _ 1 Try.underlying25 hi hz0 hz1 hz2 rfl (.slice (some ⟨w.heap.size, 0, none⟩) 0 0) 0 [] rfl HOWN.out w.heap.size A _ cap _ rfl HS.out (vbs_one _) hb1.out hb2.out hb3.out ?_; intro v2 w2 HV2 hG2 HV2'))
    go_ret
    refine ⟨v2, rfl, ?_, ((Only.refl [] w).alloc (.cells #[] 5)).grown hG2 (fun k hk => .inr (by simp [Value.ownBlock] at hk; omega))⟩
    have := HV2.out
    rwa [Nat.zero_add, List.nil_append] at this

/-! ### The reference's Consume -/
set_option maxHeartbeats 400000 in
theorem ref_consume_bad {w : World} {lo mr N : Nat} {c : List UInt8} (h : RefAt w lo mr N c) (n : Int) (hn : n < 0 ∨ (c.length : Int) < n) :
    Calls Try.prog 21 #[.pointer (some ⟨mr, 0, none⟩), .int .i64 n] w fun e w' => e = .returned (.int .i64 3) ∧ w = w' := by
  obtain ⟨A, cap, hb, hc, hcm, hr, hA⟩ := h
  have c0 : w.cell? ⟨mr, 0, none⟩ = some (.slice A c.length cap) := hb.cell 0
  have h3 : n < 0 ∨ (0 ≤ n ∧ (c.length : Int) < n) := by omega
  clear hn
  rcases h3 with h1 | ⟨h1, h2⟩
  all_goals
    go_enter Try.func21, Try.ntmps21
    go_wp2
    go_ret
    exact ⟨rfl, rfl⟩

set_option maxHeartbeats 400000 in
theorem ref_consume {w : World} {lo mr N : Nat} {c : List UInt8} (h : RefAt w lo mr N c) (k : Nat) (hk : k ≤ c.length) (hcl : c.length ≤ 65536) (hlo : lo ≤ w.heap.size) (hmr : mr < w.heap.size) :
    Calls Try.prog 21 #[.pointer (some ⟨mr, 0, none⟩), .int .i64 (k : Int)] w fun e w' => e = .returned (.int .i64 0) ∧ RefAt w' lo mr N (c.drop k) ∧ Only [mr] w w' := by
  obtain ⟨A, cap, hb, hc, hcm, hr, hA⟩ := h
  obtain ⟨i0, hi, hz0, hz1, hz2⟩ := info_parts info_byte
  have c0 : w.cell? ⟨mr, 0, none⟩ = some (.slice A c.length cap) := hb.cell 0
  have c0' : (w.alloc (.cells #[] 5)).cell? ⟨mr, 0, none⟩ = some (.slice A c.length cap) := (hb.alloc _).cell 0
  have HOWN := Lib.hid (empty_own w)
  have hsrc : Reads (w.alloc (.cells #[] 5)) w.heap.size (cutA cap k 1 A) (c.length - k) (vbs (c.drop k)) := by
    have h1 := hr.cut_ (k := k) (m := c.length) (c := cap) hk (Nat.le_refl _) hc
    rw [← vbs_drop, List.take_of_length_le (by rw [vbs_length, List.length_drop]; exact Nat.le_refl _)] at h1
    exact h1.only' ((Only.refl [] w).alloc _) (Nat.le_refl _) (by simp)
  have HS := Lib.hid hsrc
  have hb1 := Lib.hid (show 0 + (c.length - k) ≤ maxLen by unfold maxLen; omega)
  have hb2 := Lib.hid (show (0 + (c.length - k)) * 1 ≤ 140737488355328 by omega)
  have hb3 := Lib.hid (show w.heap.size ≤ (w.alloc (.cells #[] 5)).heap.size by simp)
  have HF := Lib.hid (show ∀ w2, (w.alloc (.cells #[] 5)).grownBy w2 (Value.slice (some ⟨w.heap.size, 0, none⟩) 0 0).ownBlock → Blk w2 mr 37 [.slice A c.length cap, .int .i64 N] ∧
      w2.cell? ⟨mr, 0, none⟩ = some (.slice A c.length cap) ∧ w2.frozen? ⟨mr, 0, none⟩ = false by
    intro w2 hg
    have hb2 := (hb.alloc (.cells #[] 5)).grown hg (by simp [Value.ownBlock]; omega)
    exact ⟨hb2, hb2.cell 0, hb2.free 0⟩)
  clear hsrc
  have hk1 : (k : Int) ≤ (c.length : Int) := by omega
  have hkc : (k : Int) ≤ (cap : Int) := by omega
  go_enter Try.func21, Try.ntmps21
  go_wp2_with (first | (with_reducible refine wp_append' rfl (.tmp 17) (.tmp 23) 25 rfl w.heap.size 5 i0 _ 1 Try.underlying25 hi hz0 hz1 hz2 rfl (.slice (some ⟨w.heap.size, 0, none⟩) 0 0) 0 [] rfl HOWN.out w.heap.size (cutA cap k 1 A) _ (cap - k) _ rfl HS.out (vbs_one _) hb1.out hb2.out hb3.out (c.length - k) (by omega) ?_; intro A2 c2 w2 HV2 hG2; have hf := HF.out _ hG2; have hf1 := hf.2.1; have hf2 := hf.2.2; have HBB := Lib.hid hf.1; clear hf))
  have hv := HV2.out
  rw [List.nil_append] at hv
  obtain ⟨A2', c2', hve, hmc2, hcm2, hrd2, hA2, hn2⟩ := Reads.of_own hv
  injection hve with e1 e2 e3
  subst e1
  subst e3
  go_ret
  refine ⟨rfl, ⟨A2, c2, ?_, by rw [List.length_drop]; exact hmc2, hcm2, ?_, ?_⟩, ?_⟩
  · have := HBB.out.set_ 0 (.slice A2 (c.length - k) c2)
    rw [List.length_drop]
    simpa using this
  · rw [List.length_drop]
    have h1 := hrd2.only' (w' := w2.setCell ⟨mr, 0, none⟩ (.slice A2 (c.length - k) c2)) ((Only.refl [mr] w2).setCell (.inl (by simp)) _) (Nat.le_refl _) (fun h0 ad e => by have := (hA2 ad e).2.1; simp; omega)
    exact h1.more (by simp [World.setCell])
  · intro h0 ad e
    have := (hA2 ad e).2.1
    omega
  · exact (((Only.refl [mr] w).alloc (.cells #[] 5)).grown hG2 (fun k' hk' => .inr (by simp [Value.ownBlock] at hk'; omega))).setCell (.inl (by simp)) _

end Go.Proofs.Ytjlmmibokppkgaa
