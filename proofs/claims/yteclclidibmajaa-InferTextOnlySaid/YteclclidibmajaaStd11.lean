/-
  Contracts: what lex reaches of Go's library; isPath; the closure of directive.
-/
import Derived.Test.YteclclidibmajaaSplits
import Derived.Test.YteclclidibmajaaLxy
import Derived.Test.YteclclidibmajaaKRow
import Derived.Lib.FieldsP
import Derived.Lib.DecodeN
namespace Go.Proofs.Yteclclidibmajaa
open Go.RowKit Go.BigFrame
set_option linter.unusedVariables false
set_option linter.unusedSimpArgs false

/-- The number that 'find' gives. -/
def fnum (c : UInt8) (l : List UInt8) : Int := match find2 c l with | none => -1 | some i => (i : Int)
/-! ### Words by strings.FieldsFunc -/
theorem decodeN_space (n b0 b1 b2 b3 : Nat) (h : (Lib.decodeN n b0 b1 b2 b3).1 = 32) : b0 = 32 ∧ (Lib.decodeN n b0 b1 b2 b3).2 = 1 := by
  unfold Lib.decodeN at h ⊢
  repeat' split
  all_goals first | (simp_all; done) | (exfalso; simp_all; omega)
theorem decodeN_other (n b0 b1 b2 b3 : Nat) (h : (Lib.decodeN n b0 b1 b2 b3).1 ≠ 32) : b0 ≠ 32 := by
  rintro rfl
  simp [Lib.decodeN] at h
theorem conts (n b0 b1 b2 b3 : Nat) : (2 ≤ (Lib.decodeN n b0 b1 b2 b3).2 → 128 ≤ b1 ∧ 1 < n) ∧ (3 ≤ (Lib.decodeN n b0 b1 b2 b3).2 → 128 ≤ b2 ∧ 2 < n) ∧ (4 ≤ (Lib.decodeN n b0 b1 b2 b3).2 → 128 ≤ b3 ∧ 3 < n) ∧ (Lib.decodeN n b0 b1 b2 b3).2 ≤ 4 := by
  unfold Lib.decodeN
  repeat' split
  all_goals (dsimp only; omega)
def isSp (x : Nat) : Bool := x == 32
theorem spans_words (s : ByteArray) : ∀ (f pos : Nat) (st : Option Nat) (acc : List (Nat × Nat)) (cur : List UInt8), s.size ≤ pos + f → pos ≤ s.size → (match st with | none => cur = [] | some a => a < pos ∧ cur = ((toL s).take pos).drop a) →
    (Lib.closeSpans s (Lib.spansFromP isSp s f pos st acc)).map (fun x => toL (s.extract x.1 x.2)) = acc.map (fun x => toL (s.extract x.1 x.2)) ++ wl cur ((toL s).drop pos) := by
  have close : ∀ (pos : Nat) (st : Option Nat) (acc : List (Nat × Nat)) (cur : List UInt8), pos = s.size → (match st with | none => cur = [] | some a => a < pos ∧ cur = ((toL s).take pos).drop a) →
      (Lib.closeSpans s (acc, st)).map (fun x => toL (s.extract x.1 x.2)) = acc.map (fun x => toL (s.extract x.1 x.2)) ++ wl cur ((toL s).drop pos) := by
    intro pos st acc cur hp hst
    subst hp
    rw [List.drop_of_length_le (Nat.le_of_eq (toL_len s))]
    cases st with
    | none => subst hst; simp [Lib.closeSpans, wl]
    | some a =>
      obtain ⟨h1, rfl⟩ := hst
      have hne : ((toL s).take s.size).drop a ≠ [] := by
        intro h0
        have := congrArg List.length h0
        rw [List.length_drop, List.length_take, toL_len] at this
        simp at this; omega
      simp only [Lib.closeSpans, List.map_append, List.map_cons, List.map_nil, wl, if_neg hne]
      rw [toL_extract]
  intro f
  induction f with
  | zero => intro pos st acc cur h1 h2 hst; exact close pos st acc cur (by omega) hst
  | succ f ih =>
    intro pos st acc cur h1 h2 hst
    by_cases hlt : pos < s.size
    · have hN := Lib.decode_N s pos
      have hle : s.data.toList.length = s.size := toL_len s
      have hw := Lib.width_pos s pos
      have hc := conts (s.data.toList.length - pos) (s.data.toList.getD pos 0).toNat (s.data.toList.getD (pos + 1) 0).toNat (s.data.toList.getD (pos + 2) 0).toNat (s.data.toList.getD (pos + 3) 0).toNat
      have hsp := decodeN_space (s.data.toList.length - pos) (s.data.toList.getD pos 0).toNat (s.data.toList.getD (pos + 1) 0).toNat (s.data.toList.getD (pos + 2) 0).toNat (s.data.toList.getD (pos + 3) 0).toNat
      have hot := decodeN_other (s.data.toList.length - pos) (s.data.toList.getD pos 0).toNat (s.data.toList.getD (pos + 1) 0).toNat (s.data.toList.getD (pos + 2) 0).toNat (s.data.toList.getD (pos + 3) 0).toNat
      rw [← hN, hle] at hc
      rw [← hN] at hsp hot
      obtain ⟨c2, c3, c4, c5⟩ := hc
      have hpl : pos < (toL s).length := hlt
      have hfst : (toL s).drop pos = (toL s)[pos] :: (toL s).drop (pos + 1) := List.drop_eq_getElem_cons hpl
      have hb0 : s.data.toList.getD pos 0 = (toL s)[pos] := by
        rw [List.getD_eq_getElem?_getD, List.getElem?_eq_getElem (show pos < s.data.toList.length from hpl)]
        rfl
      unfold Lib.spansFromP
      rw [if_pos hlt]
      generalize Utf8.decode s pos = d at *
      obtain ⟨r, k⟩ := d
      dsimp only at *
      by_cases hr : r = 32
      · obtain ⟨h32, hk⟩ := hsp hr
        subst hk
        rw [hb0] at h32
        have h32' : (toL s)[pos] = 32 := UInt8.toNat_inj.1 h32
        have hp : isSp r = true := by rw [hr]; rfl
        rw [hp, hfst, h32', wl, if_pos rfl]
        simp only [if_true]
        cases st with
        | none =>
          dsimp only
          dsimp only at hst
          subst hst
          rw [if_pos rfl]
          exact ih (pos + 1) none acc [] (by omega) (by omega) rfl
        | some a =>
          dsimp only
          obtain ⟨h3, rfl⟩ := hst
          have hne : ((toL s).take pos).drop a ≠ [] := by
            intro h0
            have := congrArg List.length h0
            rw [List.length_drop, List.length_take, toL_len] at this
            simp at this; omega
          rw [if_neg hne]
          refine (ih (pos + 1) none (acc ++ [(a, pos)]) [] (by omega) (by omega) rfl).trans ?_
          simp [toL_extract]
      · have hp : isSp r = false := by simp [isSp, hr]
        rw [hp]
        simp only [Bool.false_eq_true, if_false]
        have hkn : pos + k ≤ s.size := by omega
        have hbytes : ∀ c ∈ ((toL s).drop pos).take k, c ≠ 32 := by
          intro c hcm hc32
          obtain ⟨j, hj, hjv⟩ := List.getElem_of_mem hcm
          rw [List.length_take, List.length_drop, toL_len] at hj
          rw [List.getElem_take, List.getElem_drop] at hjv
          have hgd : ∀ i, (hi : pos + i < (toL s).length) → s.data.toList.getD (pos + i) 0 = (toL s)[pos + i] := fun i hi => by
            rw [List.getD_eq_getElem?_getD, List.getElem?_eq_getElem (show pos + i < s.data.toList.length from hi)]; rfl
          have hj32 : (s.data.toList.getD (pos + j) 0).toNat = 32 := by rw [hgd j (by rw [toL_len]; omega), hjv, hc32]; rfl
          rcases (by omega : j = 0 ∨ j = 1 ∨ j = 2 ∨ j = 3) with rfl | rfl | rfl | rfl
          · exact hot hr hj32
          · have := (c2 (by omega)).1; omega
          · have := (c3 (by omega)).1; omega
          · have := (c4 (by omega)).1; omega
        have hsplit : (toL s).drop pos = ((toL s).drop pos).take k ++ (toL s).drop (pos + k) := by
          conv => lhs; rw [← List.take_append_drop k ((toL s).drop pos), List.drop_drop]
        have hcur : ∀ a, a ≤ pos → ((toL s).take pos).drop a ++ ((toL s).drop pos).take k = ((toL s).take (pos + k)).drop a := by
          intro a ha
          have e1 : (toL s).take (pos + k) = (toL s).take pos ++ ((toL s).drop pos).take k := by rw [List.take_add]
          rw [e1, List.drop_append_of_le_length (by rw [List.length_take, toL_len]; omega)]
        cases st with
        | none =>
          dsimp only
          dsimp only at hst
          subst hst
          rw [hsplit, wl_word hbytes, List.nil_append]
          refine ih (pos + k) (some pos) acc _ (by omega) hkn ⟨by omega, ?_⟩
          have e0 : ((toL s).take pos).drop pos = [] := List.drop_of_length_le (by rw [List.length_take]; omega)
          have e1 := hcur pos (Nat.le_refl _)
          rw [e0, List.nil_append] at e1
          exact e1
        | some a =>
          dsimp only
          obtain ⟨h3, rfl⟩ := hst
          rw [hsplit, wl_word hbytes, hcur a (by omega)]
          exact ih (pos + k) (some a) acc _ (by omega) hkn ⟨by omega, rfl⟩
    · have hps : pos = s.size := by omega
      rw [Lib.spansFromP_end _ _ _ _ _ _ hlt]
      exact close pos st acc cur hps hst
/-- The words of a string. -/
def wordsB (s : ByteArray) : List ByteArray := (words (toL s)).map ofL
theorem fields_words (s : ByteArray) : Lib.goFieldsP isSp s = wordsB s := by
  unfold wordsB
  refine L_parts ?_
  have := spans_words s s.size 0 none [] [] (by omega) (Nat.zero_le _) rfl
  rw [List.drop_zero] at this
  unfold Lib.goFieldsP Lib.spansOfP words
  rw [List.map_map]
  simpa [Function.comp_def] using this
theorem refPath_c (s : ByteArray) (w : World) (hs : 0 < s.size) :
    Calls Try.prog 67 #[.string s] w fun e w' => e = .returned (.bool (isP (toL s))) ∧ w' = w := by
  have h0 : ((s[0].toNat : Int) == 46) = isP (toL s) := by
    have e1 : toL s = s[0] :: (toL s).drop 1 := by
      have := List.drop_eq_getElem_cons (l := toL s) (i := 0) hs
      rw [List.drop_zero] at this
      exact this
    rw [e1]
    unfold isP
    rw [Bool.eq_iff_iff]
    simp only [beq_iff_eq]
    constructor
    · intro h; exact UInt8.toNat_inj.1 (by rw [show (46 : UInt8).toNat = 46 from rfl]; omega)
    · intro h; rw [h]; rfl
  generalize isP (toL s) = b at h0
  go_enter Try.func67, Try.ntmps67
  go_wp2_with fail
  go_ret
  exact ⟨ret_bool (by first | rfl | exact h0), rfl⟩
end Go.Proofs.Yteclclidibmajaa
