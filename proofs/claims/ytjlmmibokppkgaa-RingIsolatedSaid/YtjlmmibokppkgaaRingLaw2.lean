/-
  The laws RingIsolated and RingKeepsOrder, walked.
-/
import Derived.Test.YtjlmmibokppkgaaRingLaw
namespace Go.Proofs.Ytjlmmibokppkgaa
open Go.RowKit Go.BigFrame
set_option linter.unusedVariables false
set_option linter.unusedSimpArgs false
attribute [local go_sem ↓] sliced_cut run_min2 run_max2
attribute [local go_sem] cutA_zero

/-- The slice '.slice A m _' leads to m bytes, whichever, in a block of T that is known whole. -/
def SomeBytes (w : World) (T : List Nat) (A : Option Addr) (m : Nat) : Prop :=
  0 < m → ∃ g, A = some ⟨g, 0, none⟩ ∧ T = [g] ∧ ∃ cs : List Value, Blk w g 5 cs ∧ m ≤ cs.length ∧ ∀ i, i < m → ∃ z : Nat, cs[i]? = some (.int .u8 z) ∧ z < 256
theorem SomeBytes.set_ {w : World} {g m : Nat} {cs : List Value} (hb : Blk w g 5 cs) (hm : m ≤ cs.length) (hz : ∀ i, i < m → ∃ z : Nat, cs[i]? = some (.int .u8 z) ∧ z < 256) (k z : Nat) (h : z < 256) :
    SomeBytes (w.setCell ⟨g, k, none⟩ (.int .u8 z)) [g] (some ⟨g, 0, none⟩) m := by
  intro _
  refine ⟨g, rfl, rfl, cs.set k (.int .u8 z), hb.set_ k _, by simpa using hm, fun i hi => ?_⟩
  by_cases e : k = i
  · subst e
    exact ⟨z, by rw [List.getElem?_set_self (by omega)], h⟩
  · rw [List.getElem?_set_ne e]
    exact hz i hi

set_option maxHeartbeats 1000000 in
theorem isolated_walk (A : Option Addr) (m c : Nat) (b : List UInt8) (w : World) (hb : b.length = m ∧ m ≤ c ∧ c ≤ maxLen ∧ Reads w w.heap.size A m (vbs b)) :
    Calls Try.prog 6 #[.slice A m c] w fun e w' => e = .returned (.bool true) ∧ Below w.heap.size w w' := by
  obtain ⟨hbl, hmc, hcm, hrd⟩ := hb
  have HB := Lib.hid hbl
  clear hbl
  by_cases hm : (3000 : Int) < (m : Int)
  · go_enter Try.func6, Try.ntmps6
    go_wp2_with (go_at_call 16; refine (alive_any _).mono ?_; rintro e w2 ⟨rfl, hO2⟩)
    go_ret
    exact ⟨rfl, only_nil_below hO2⟩
  · have hm' : (m : Int) ≤ 3000 := by omega
    obtain ⟨i0, hi, hz0, hz1, hz2⟩ := info_parts info_byte
    go_enter Try.func6, Try.ntmps6
    go_wp2_with fail
    refine (new_c 65536 65536 rfl (by omega) (by omega) _).mono ?_
    rintro e w1 ⟨r, bb, rfl, hr, hbb, hR1, hO1⟩
    have hrd1 := hrd.only' hO1 (Nat.le_refl _) (by simp)
    have hown1 : (w1.alloc (.cells #[] 5)).ownsRow w1.heap.size 5 1 (.slice (some ⟨w1.heap.size, 0, none⟩) 0 0) 0 [] :=
      own_of_blk (Blk.new w1 5 []) (Nat.le_refl _) 0 (by simp) (by simp)
    have HOWN := Lib.hid hown1
    clear hown1
    have hsrc := hrd1.only' ((Only.refl [] w1).alloc (.cells #[] 5)) hO1.size (by simp)
    have hb1 := Lib.hid (show 0 + m ≤ maxLen by unfold maxLen at *; omega)
    have hb2 := Lib.hid (show (0 + m) * 1 ≤ 140737488355328 by omega)
    have hb3 := Lib.hid (show w1.heap.size ≤ (w1.alloc (.cells #[] 5)).heap.size by simp)
    go_wp2_with (first | (with_reducible refine wp_append rfl (.tmp 23) (.tmp 24) 25 rfl w1.heap.size 5 i0 _ 1 Try.underlying25 hi hz0 hz1 hz2 rfl (.slice (some ⟨w1.heap.size, 0, none⟩) 0 0) 0 [] rfl HOWN.out w.heap.size A m c (vbs b) rfl hsrc (vbs_one _) hb1.out hb2.out hb3.out ?_; intro v2 w2 HV2 hG2 HV3))
    have hv2 := HV2.out
    rw [Nat.zero_add, List.nil_append] at hv2
    obtain ⟨A2, c2, rfl, hmc2, hcm2, hrd2, hA2, _⟩ := Reads.of_own hv2
    clear hv2
    have hlt1 := hR1.lt
    have hR2 : RingOf w2 r bb 65536 [] := by
      have h1 := hR1.alloc (.cells #[] 5)
      exact h1.only (Only.grown (S := [w1.heap.size]) (Only.refl _ _) hG2 (fun k hk => by simp [Value.ownBlock] at hk; simp [hk])) (by simp; omega) (by simp; omega)
    have hne2 : 0 < m → ∀ ad, A2 = some ad → ad.block ≠ bb := fun _ ad e => by have := (hA2 ad e).2.1; omega
    refine (put_c hR2 (b := b) hrd2 (Nat.le_refl _) hne2 hmc2 (by omega) m (by simp; omega)).mono ?_
    rintro e w3 ⟨rfl, hR3, hO3⟩
    have hR3' : RingOf w3 r bb 65536 b := by
      have e : ([] : List UInt8) ++ b.take m = b := by rw [List.nil_append, List.take_of_length_le (by rw [HB.out]; omega)]
      rw [e] at hR3
      exact hR3
    clear hR3
    obtain ⟨T, hT⟩ : ∃ T : List Nat, T = (A2.map (·.block)).toList := ⟨_, rfl⟩
    have hS3 : SomeBytes w3 T A2 m := by
      intro h0
      obtain ⟨ad, e1, _⟩ := hrd2.2 h0
      obtain ⟨e2, e3, _, cur, hc, hcl, htk⟩ := hA2 ad e1
      refine ⟨ad.block, by rw [e1]; exact congrArg some e2, by rw [hT, e1]; rfl, cur, hc.only hO3 (by simp; omega), by omega, fun i hi => ?_⟩
      have : (cur.take m)[i]? = (vbs b)[i]? := by rw [htk]
      rw [List.getElem?_take, if_pos hi] at this
      rw [this, vbs_getElem?, List.getElem?_eq_getElem (by rw [HB.out]; exact hi)]
      exact ⟨_, rfl, UInt8.toNat_lt _⟩
    have hT1 : ∀ k, k ∈ T → w1.heap.size ≤ k := by
      intro k hk
      rw [hT] at hk
      cases hA : A2 with
      | none => rw [hA] at hk; simp at hk
      | some ad => rw [hA] at hk; simp at hk; subst hk; exact (hA2 ad hA).2.1
    have HT := Lib.hid hT
    clear hT hA2 hne2 hsrc hrd2
    go_wp2_with fail
    go_loopw [31] (fun i wr => ∃ k : Nat, k ≤ m ∧ i = .int .i64 k ∧ Only T w3 wr ∧ SomeBytes wr T A2 m) (fun i _ => m - (intOf i).toNat)
    case atStart => exact ⟨0, Nat.zero_le _, rfl, Only.refl _ _, hS3⟩
    case round =>
      obtain ⟨k, hk, rfl, hO4, hS4⟩ := hrel
      by_cases hlt : k < m
      · obtain ⟨g, rfl, rfl, cs, hB, hml, hz⟩ := hS4 (by omega)
        obtain ⟨z, hz1, hz2'⟩ := hz k hlt
        have hcell : wr.cell? ⟨g, k, none⟩ = some (.int .u8 z) := (hB.cell k).trans hz1
        have hfree := hB.free k
        have hx := u8_xor (z : Int) 255 (by omega) (by omega) (by omega) (by omega)
        have hx' : bits .xor .u8 (z : Int) 255 = ((z ^^^ 255 : Nat) : Int) := by simpa using hx
        clear hx
        go_wp2
        go_roundw
        case rel => exact ⟨k + 1, by omega, by go_num, hO4.setCell (.inl (by simp)) _, SomeBytes.set_ hB hml hz k _ (Nat.xor_lt_two_pow (n := 8) hz2' (by omega))⟩
        case measure => simp [intOf]; omega
      · clear hS3
        have hlt3 := hR3'.lt
        have hR4 : RingOf wr r bb 65536 b := hR3'.only hO4 (fun hm => by have := hT1 _ hm; omega) (fun hm => by have := hT1 _ hm; omega)
        go_wp2_with fail
        refine (peek_c hR4 (m : Int) m (by rw [HB.out]; omega)).mono ?_
        rintro e w5 ⟨g, rfl, hg, hB5, hO5⟩
        have hS5 : SomeBytes w5 [g] (some ⟨g, 0, none⟩) m := by
          intro _
          refine ⟨g, rfl, rfl, _, hB5, by rw [vbs_length, List.length_take, HB.out]; omega, fun i hi => ?_⟩
          rw [vbs_getElem?, List.getElem?_take, if_pos hi, List.getElem?_eq_getElem (by rw [HB.out]; exact hi)]
          exact ⟨_, rfl, UInt8.toNat_lt _⟩
        have hR5 := hR4.only hO5 (by simp) (by simp)
        have hlt4 := hR4.lt
        clear hS4 hB5
        go_wp2_with fail
        go_loopw [47] (fun i wr => ∃ k : Nat, k ≤ m ∧ i = .int .i64 k ∧ Only [g] w5 wr ∧ SomeBytes wr [g] (some ⟨g, 0, none⟩) m) (fun i _ => m - (intOf i).toNat)
        case atStart => exact ⟨0, Nat.zero_le _, rfl, Only.refl _ _, hS5⟩
        case round =>
          obtain ⟨k', hk', rfl, hO6, hS6⟩ := hrel
          by_cases hlt' : k' < m
          · obtain ⟨g', hgg, _, cs, hB, hml, hz⟩ := hS6 (by omega)
            have e1 : g' = g := by injection hgg with hgg; injection hgg with hgg; exact hgg.symm
            subst e1
            clear hgg
            obtain ⟨z, hz1, hz2'⟩ := hz k' hlt'
            have hcell := (hB.cell k').trans hz1
            have hfree := hB.free k'
            have hx := u8_xor (z : Int) 255 (by omega) (by omega) (by omega) (by omega)
            have hx' : bits .xor .u8 (z : Int) 255 = ((z ^^^ 255 : Nat) : Int) := by simpa using hx
            clear hx
            go_wp2
            go_roundw
            case rel => exact ⟨k' + 1, by omega, by go_num, hO6.setCell (.inl (by simp)) _, SomeBytes.set_ hB hml hz k' _ (Nat.xor_lt_two_pow (n := 8) hz2' (by omega))⟩
            case measure => simp [intOf]; omega
          · clear hS5 hS6
            have hR6 : RingOf wr r bb 65536 b := hR5.only hO6 (by simp; omega) (by simp; omega)
            have bl2 : Below w.heap.size w w2 := (((only_nil_below hO1).alloc hO1.size (.cells #[] 5))).grown hG2 (by have := hO1.size; simp; omega) (fun k hk => by have := hO1.size; simp [Value.ownBlock] at hk; omega)
            have bl3 := Only.below bl2 hO3 bl2.size (fun k hk => by simp at hk; omega)
            have bl4 := Only.below bl3 hO4 bl3.size (fun k hk => by have := hT1 k hk; have := hO1.size; omega)
            have bl5 := Only.below bl4 hO5 bl4.size (by simp)
            have bl6 := Only.below bl5 hO6 bl5.size (fun k hk => by have := bl4.size; simp at hk; omega)
            have HS : Hid (∀ w', Only [] wr.drew w' → StrAt w' A m c b) := by
              intro w' hO
              exact strAt_of ((hrd.below bl6).only' ((Only.refl [] wr).drew.trans hO) bl6.size (by simp)) c
            go_wp2_with fail
            refine region_begin (T := []) (by kernel_rfl) ?_
            refine region_call 0 (by kernel_rfl) rfl (by rfl) (by go_simp; exact ⟨rfl, rfl⟩) ?_
            refine (alive_any _).mono ?_
            rintro e w7 ⟨rfl, hO7⟩
            refine ⟨_, rfl, hO7, ?_⟩
            simp only [List.getElem_toArray, List.getElem_cons_zero, List.getElem_cons_succ, Act.put, List.setIfInBounds_toArray, List.set_cons_zero, List.set_cons_succ]
            have s1 := fun x : Later [] w7 => HS.out x.w (hO7.trans x.h)
            unfold StrAt at s1
            refine region_seg [false, true, true, true, true, false, false, true, true] 5 (by kernel_rfl) (by kernel_rfl) (by kernel_rfl) rfl (fun _ _ d _ _ h => by cases d <;> exact h) ?_
            repeat (first | with_reducible refine wpMask_pass ?_ | (refine wpMask_want (by rfl) (fun K hK => ?_); go_big_quiet_op; refine hK _ ?_; clear hK K))
            with_reducible refine wpMask_nil ?_
            refine region_call 5 (by kernel_rfl) rfl (by rfl) (by go_simp; exact ⟨rfl, rfl⟩) ?_
            refine (peek_c ((hR6.drewN 1).only hO7 (by simp) (by simp)) (m : Int) m (by rw [HB.out]; omega)).mono ?_
            rintro e w8 ⟨g3, rfl, hg3, hB8, hO8⟩
            refine ⟨_, rfl, hO8, ?_⟩
            simp only [List.getElem_toArray, List.getElem_cons_zero, List.getElem_cons_succ, Act.put, List.setIfInBounds_toArray, List.set_cons_zero, List.set_cons_succ]
            rw [List.take_of_length_le (by rw [HB.out]; omega)] at hB8
            have s4 := fun x : Later [] w8 => strAt_of (by have hb := hB8.only x.h (by simp); have := Reads.of_blk hb 0 m (by rw [vbs_length, HB.out]; omega) hb.lt; rw [List.drop_zero, List.take_of_length_le (by rw [vbs_length, HB.out]; omega)] at this; exact this) m
            unfold StrAt at s4
            refine region_seg [false, false, false, false, false, false, true, false, false, true, true, true] 0 (by kernel_rfl) (by kernel_rfl) (by kernel_rfl) rfl (fun _ _ d _ _ h => by cases d <;> exact h) ?_
            repeat (first | with_reducible refine wpMask_pass ?_ | (refine wpMask_want (by rfl) (fun K hK => ?_); go_big_quiet_op; refine hK _ ?_; clear hK K))
            with_reducible refine wpMask_nil ?_
            refine region_end (by kernel_rfl) ?_
            go_wp2
            go_ret
            exact ⟨rfl, Only.below bl6 ((Only.refl [] wr).drew.trans (hO7.trans hO8)) bl6.size (by simp)⟩

end Go.Proofs.Ytjlmmibokppkgaa
