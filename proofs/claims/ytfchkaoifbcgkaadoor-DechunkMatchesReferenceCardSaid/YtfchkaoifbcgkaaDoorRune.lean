/-
  Contract of strings.IndexRune at the sixteen digits (the shelf's laying laysIB: strings.IndexByte).
-/
import Derived.Test.YtfchkaoifbcgkaaDoorText
import Derived.Test.YtfchkaoifbcgkaaDoorShelf
import Derived.Laws.Runes
import Derived.Laws.RangeAny
import Derived.LoopTactic
import Derived.WalkMore
import Derived.RegionTactic
import Derived.ChangeAlike
import Derived.Deep.QuietTactic
import Derived.BigQuiet
namespace Go.Proofs.YtfchkaoifbcgkaaDoor
open Go.RowKit Go.BigFrame
set_option linter.unusedVariables false
set_option linter.unusedSimpArgs false
attribute [local go_sem ↓] sliced_cut run_min2 run_max2
attribute [local go_sem] cutA_zero

/-! ### strings.IndexRune at the digits -/
def ixOf (r : Int) : Int := if 48 ≤ r ∧ r ≤ 57 then r - 48 else if 97 ≤ r ∧ r ≤ 102 then r - 87 else -1
theorem ix_byte : ∀ i : Fin 256, Lib.indexByte hexS.data.toList (UInt8.ofNat i.val) = ixOf (i.val : Int) := by decide +kernel
theorem indexByte_c (s : ByteArray) (c : Int) (w : World) :
    Calls Tryd.prog 55 #[.string s, .int .u8 c] w fun e w' => e = .returned (.int .i64 (Lib.indexByte s.data.toList c.toNat.toUInt8)) ∧ w' = w := Any.strings_IndexByte Tryd.laysIB s c w
set_option maxHeartbeats 800000 in
theorem validRune_c {r : Int} (h : (0 ≤ r ∧ r < 55296) ∨ (57343 < r ∧ r ≤ 1114111)) (w : World) :
    Calls Tryd.prog 56 #[.int .i32 r] w fun e w' => e = .returned (.bool true) ∧ w = w' := by
  go_enter Tryd.func56, Tryd.ntmps56
  rcases h with ⟨h1, h2⟩ | ⟨h1, h2⟩
  · go_wp2
    go_ret
    exact ⟨rfl, rfl⟩
  · have h3 : ¬ r < 55296 := by omega
    go_wp2
    go_ret
    exact ⟨rfl, rfl⟩
set_option maxRecDepth 100000 in
set_option maxHeartbeats 4000000 in
theorem indexRune_ascii {r : Int} (h0 : 0 ≤ r) (h1 : r < 128) (w : World) :
    Calls Tryd.prog 51 #[.string ⟨#[48, 49, 50, 51, 52, 53, 54, 55, 56, 57, 97, 98, 99, 100, 101, 102]⟩, .int .i32 r] w fun e w' => e = .returned (.int .i64 (ixOf r)) ∧ Only [] w w' := by
  have hres : Hid (Lib.indexByte hexS.data.toList (r.toNat.toUInt8) = ixOf r) := Lib.hid (by
    have := ix_byte ⟨r.toNat, by omega⟩
    simp only at this
    rw [show ((r.toNat : Nat) : Int) = r by omega] at this
    exact this)
  go_enter Tryd.func51, Tryd.ntmps51
  go_wp2_with (go_at_call 55; refine (indexByte_c _ _ _).mono ?_; rintro e w' ⟨rfl, hw⟩; rw [hw])
  go_ret
  refine ⟨?_, Only.refl _ _⟩
  rw [← hres.out]
  rfl
theorem iter_only (w : World) (s : ByteArray) (i : Nat) : Only [] w (w.iter s i) := (Only.refl [] w).alloc _
theorem hexS_lt : ∀ (i : Nat) (h : i < hexS.size), (hexS[i]'h).toNat < 128 := by decide
set_option maxRecDepth 100000 in
set_option maxHeartbeats 4000000 in
theorem indexRune_error (w : World) :
    Calls Tryd.prog 51 #[.string ⟨#[48, 49, 50, 51, 52, 53, 54, 55, 56, 57, 97, 98, 99, 100, 101, 102]⟩, .int .i32 65533] w fun e w' => e = .returned (.int .i64 (-1)) ∧ Only [] w w' := by
  show Calls Tryd.prog 51 #[.string hexS, .int .i32 65533] w _
  have hS : hexS.size = 16 := rfl
  have hlt := hexS_lt
  go_enter Tryd.func51, Tryd.ntmps51
  generalize hexS = S at *
  have HL := Lib.hid hlt
  clear hlt
  go_wp2
  go_loopw [5] (fun s5 w' => ∃ i : Nat, i ≤ 16 ∧ w' = w.iter S i) (fun s5 w' => 16 - w'.iterPos w.heap.size)
  case atStart => exact ⟨0, by omega, rfl⟩
  case round =>
    obtain ⟨i, hi, rfl⟩ := hrel
    by_cases hp : i < S.size
    · have hnx : ∀ ty, (Instr.next (.pointer (some ⟨w.heap.size, 0, none⟩)) true ty).run Tryd.prog (w.iter S i) = _ := fun ty => run_next_ascii w S i ty hp (HL.out i hp)
      have hne : ¬ (((S[i]'hp).toNat : Int) = 65533) := by have := HL.out i hp; omega
      generalize (S[i]'hp).toNat = x at *
      go_wp2
      go_roundw
      case rel => exact ⟨i + 1, by omega, rfl⟩
      case measure => simp; omega
    · have hnx : ∀ ty, (Instr.next (.pointer (some ⟨w.heap.size, 0, none⟩)) true ty).run Tryd.prog (w.iter S i) = _ := fun ty => run_next_end w S i ty hp
      go_wp2
      go_ret
      exact ⟨rfl, iter_only w S i⟩
theorem indexByte_none {s : ByteArray} {c : Int} (hs : ∀ b ∈ s.data.toList, b.toNat < 128) (h0 : 128 ≤ c) (h1 : c < 256) (w : World) :
    Calls Tryd.prog 55 #[.string s, .int .u8 c] w fun e w' => e = .returned (.int .i64 (-1)) ∧ w' = w := by
  have hn : ∀ l : List UInt8, (∀ b ∈ l, b.toNat < 128) → Lib.indexByte l c.toNat.toUInt8 = -1 := by
    intro l
    induction l with
    | nil => intro _; rfl
    | cons b l ih =>
      intro h
      have h2 := h b (List.mem_cons_self ..)
      have hb : (b == c.toNat.toUInt8) = false := by
        rw [beq_eq_false_iff_ne]
        rintro rfl
        simp at h2
        omega
      rw [Lib.indexByte, hb, ih (fun x hx => h x (List.mem_cons_of_mem _ hx))]
      rfl
  have := indexByte_c s c w
  rw [hn _ hs] at this
  exact this
set_option maxRecDepth 100000 in
set_option maxHeartbeats 4000000 in
theorem indexRune_far {r : Int} (h128 : 128 ≤ r) (hne : r ≠ 65533) (h : (0 ≤ r ∧ r < 55296) ∨ (57343 < r ∧ r ≤ 1114111)) (w : World) :
    Calls Tryd.prog 51 #[.string ⟨#[48, 49, 50, 51, 52, 53, 54, 55, 56, 57, 97, 98, 99, 100, 101, 102]⟩, .int .i32 r] w fun e w' => e = .returned (.int .i64 (-1)) ∧ Only [] w w' := by
  have hv : Utf8.valid r = true := by rw [validRune_eq]; simp [validRune, h]
  obtain ⟨e1, e2, e3⟩ := encode_facts r hv h128
  have HV := Lib.hid (validRune_c h)
  have h1 : 0 ≤ r := by omega
  have h2 : ¬ r < 128 := by omega
  have h3 : ¬ r = 65533 := hne
  clear h hv hne h128
  generalize hE : Utf8.encode r = E at *
  obtain ⟨k, hk⟩ : ∃ k, E.size = k := ⟨_, rfl⟩
  rw [hk] at e1 e2
  obtain ⟨c, hc, hix⟩ : ∃ c : Int, (128 ≤ c ∧ c < 256) ∧ ∀ w, (Instr.index 9 (.string E) (.int .i64 ((k - 1 : Nat) : Int))).run Tryd.prog w = .ok (.int .u8 c) w := by
    have hlt : k - 1 < E.size := by omega
    have h5 : ((E[k - 1]'hlt).toNat) < 256 := UInt8.toNat_lt _
    have h6 := e3 (by omega)
    simp only [hk] at h6
    exact ⟨_, ⟨by omega, by omega⟩, fun w => run_index_str E (k - 1) hlt w⟩
  clear e3
  obtain ⟨hc0, hc1⟩ := hc
  rcases (by omega : k = 2 ∨ k = 3 ∨ k = 4) with rfl | rfl | rfl
  · go_enter Tryd.func51, Tryd.ntmps51
    go_wp2_with (go_at_call 56; refine (HV.out _).mono ?_; rintro e w' ⟨rfl, rfl⟩)
    go_step3
    go_wp2
    simp only [Nat.reduceSub, Int.cast_ofNat_Int] at hix
    have hne0 : ((49 : Int) != c) = true := by rw [bne_iff_ne]; omega
    have hsx : ∀ w, (Instr.index 9 (.string ⟨#[48, 49, 50, 51, 52, 53, 54, 55, 56, 57, 97, 98, 99, 100, 101, 102]⟩) (.int .i64 1)).run Tryd.prog w = .ok (.int .u8 49) w := fun w => run_index_str hexS 1 (by decide) w
    have HN := fun (s : ByteArray) (hs : ∀ b ∈ s.data.toList, b.toNat < 128) (w : World) => indexByte_none hs hc0 hc1 w
    go_loopw [9] (fun s9 w' => s9 = .int .i64 1 ∧ w' = w) (fun _ _ => 0)
    case atStart => exact ⟨rfl, rfl⟩
    case round =>
      obtain ⟨rfl, rfl⟩ := hrel
      go_wp2_with fail
      go_step3
      go_wp2_with fail
      go_quiet (fail)
      go_wp2_with fail
      go_quiet ((go_at_call 55; exact (HN _ (by decide +kernel) _).mono fun e w' h => ⟨h.1, _, h.2⟩))
      go_wp2
      rw [Exit.noGoto_ret]
      simp (config := {zetaDelta := true}) only [Exit.inBlock, Exit.then, Exit.noGoto]
      go_ret
      exact ⟨rfl, (Only.refl _ _).drewN _⟩
  · go_enter Tryd.func51, Tryd.ntmps51
    go_wp2_with (go_at_call 56; refine (HV.out _).mono ?_; rintro e w' ⟨rfl, rfl⟩)
    go_step3
    go_wp2
    simp only [Nat.reduceSub, Int.cast_ofNat_Int] at hix
    have hne0 : ((50 : Int) != c) = true := by rw [bne_iff_ne]; omega
    have hsx : ∀ w, (Instr.index 9 (.string ⟨#[48, 49, 50, 51, 52, 53, 54, 55, 56, 57, 97, 98, 99, 100, 101, 102]⟩) (.int .i64 2)).run Tryd.prog w = .ok (.int .u8 50) w := fun w => run_index_str hexS 2 (by decide) w
    have HN := fun (s : ByteArray) (hs : ∀ b ∈ s.data.toList, b.toNat < 128) (w : World) => indexByte_none hs hc0 hc1 w
    go_loopw [9] (fun s9 w' => s9 = .int .i64 2 ∧ w' = w) (fun _ _ => 0)
    case atStart => exact ⟨rfl, rfl⟩
    case round =>
      obtain ⟨rfl, rfl⟩ := hrel
      go_wp2_with fail
      go_step3
      go_wp2_with fail
      go_quiet (fail)
      go_wp2_with fail
      go_quiet ((go_at_call 55; exact (HN _ (by decide +kernel) _).mono fun e w' h => ⟨h.1, _, h.2⟩))
      go_wp2
      rw [Exit.noGoto_ret]
      simp (config := {zetaDelta := true}) only [Exit.inBlock, Exit.then, Exit.noGoto]
      go_ret
      exact ⟨rfl, (Only.refl _ _).drewN _⟩
  · go_enter Tryd.func51, Tryd.ntmps51
    go_wp2_with (go_at_call 56; refine (HV.out _).mono ?_; rintro e w' ⟨rfl, rfl⟩)
    go_step3
    go_wp2
    simp only [Nat.reduceSub, Int.cast_ofNat_Int] at hix
    have hne0 : ((51 : Int) != c) = true := by rw [bne_iff_ne]; omega
    have hsx : ∀ w, (Instr.index 9 (.string ⟨#[48, 49, 50, 51, 52, 53, 54, 55, 56, 57, 97, 98, 99, 100, 101, 102]⟩) (.int .i64 3)).run Tryd.prog w = .ok (.int .u8 51) w := fun w => run_index_str hexS 3 (by decide) w
    have HN := fun (s : ByteArray) (hs : ∀ b ∈ s.data.toList, b.toNat < 128) (w : World) => indexByte_none hs hc0 hc1 w
    go_loopw [9] (fun s9 w' => s9 = .int .i64 3 ∧ w' = w) (fun _ _ => 0)
    case atStart => exact ⟨rfl, rfl⟩
    case round =>
      obtain ⟨rfl, rfl⟩ := hrel
      go_wp2_with fail
      go_step3
      go_wp2_with fail
      go_quiet (fail)
      go_wp2_with fail
      go_quiet ((go_at_call 55; exact (HN _ (by decide +kernel) _).mono fun e w' h => ⟨h.1, _, h.2⟩))
      go_wp2
      rw [Exit.noGoto_ret]
      simp (config := {zetaDelta := true}) only [Exit.inBlock, Exit.then, Exit.noGoto]
      go_ret
      exact ⟨rfl, (Only.refl _ _).drewN _⟩
/-- strings.IndexRune at the digits, at every rune that is valid. -/
theorem indexRune_c {r : Int} (h : (0 ≤ r ∧ r < 55296) ∨ (57343 < r ∧ r ≤ 1114111)) (w : World) :
    Calls Tryd.prog 51 #[.string ⟨#[48, 49, 50, 51, 52, 53, 54, 55, 56, 57, 97, 98, 99, 100, 101, 102]⟩, .int .i32 r] w fun e w' => e = .returned (.int .i64 (ixOf r)) ∧ Only [] w w' := by
  by_cases h1 : r < 128
  · exact indexRune_ascii (by omega) h1 w
  · have e : ixOf r = -1 := by unfold ixOf; rw [if_neg (by omega), if_neg (by omega)]
    rw [e]
    by_cases h2 : r = 65533
    · subst h2; exact indexRune_error w
    · exact indexRune_far (by omega) h2 h w
end Go.Proofs.YtfchkaoifbcgkaaDoor
