/-
  Contracts: what the program's functions of layer 14 answer, in the form that the laws ask.
-/
import Derived.Test.YtkipmaoeejdncaaPr14
namespace Go.Proofs.Ytkipmaoeejdncaa
open Go.RowKit Go.BigFrame NT
set_option linter.unusedVariables false
set_option linter.unusedSimpArgs false

/-- Find: a node that differs from the first definition in its places only. -/
def DfP (m : List NT) (nm : ByteArray) (w : World) (e : Ending) (w' : World) : Prop := Bel w w' ∧ ((∃ (d t : NT), findN m nm = some d ∧ t.er = d.er ∧ t.In w' (Lt w') ∧ e = .returned (.tuple #[t.vv, .bool true])) ∨ (findN m nm = none ∧ e = .returned (.tuple #[ZN.vv, .bool false])))
theorem dfind_c {m : List NT} {A : Option Addr} {c : Nat} {w : World} (hA : Row w (Lt w) A c m) (ht : tots m ≤ 5000) (nm : ByteArray) : Calls Try.prog 6 #[.slice A m.length c, .string nm] w (DfP m nm w) := by
  refine (dfindK_c hA nm).mono ?_
  rintro e w' ⟨hb, ⟨d, hd, rfl⟩ | ⟨hd, rfl⟩⟩
  · exact ⟨hb, .inl ⟨d, d, hd, rfl, (hA.2 d (findN_some hd).1).bel hb, rfl⟩⟩
  · exact ⟨hb, .inr ⟨hd, rfl⟩⟩
/-- A list of strings. -/
def SsP (l : List ByteArray) (w : World) (e : Ending) (w' : World) : Prop := Bel w w' ∧ ∃ A c, e = .returned (.slice A l.length c) ∧ l.length ≤ c ∧ c ≤ maxLen ∧ Strs w' A l
theorem dnames_c {m : List NT} {A : Option Addr} {c : Nat} {w : World} (hA : Row w (Lt w) A c m) (ht : tots m ≤ 5000) : Calls Try.prog 10 #[.slice A m.length c] w (SsP (namesN m) w) := by
  have hl := len_tots m
  refine (dnamesK_c hA (by omega)).mono ?_
  rintro e w' ⟨B, d, rfl, h⟩
  exact ⟨h.bel, B, d, rfl, h.row.le, h.row.max, strs_row h.row⟩
theorem dmain_c {m : List NT} {A : Option Addr} {c : Nat} {w : World} (hA : Row w (Lt w) A c m) (ht : tots m ≤ 5000) : Calls Try.prog 17 #[.slice A m.length c] w fun e w' => Bel w w' ∧ ∃ B d, e = .returned (.slice B (mainN m).length d) := by
  have hl := len_tots m
  refine (mainK_c hA (by omega)).mono ?_
  rintro e w' ⟨B, d, rfl, h⟩
  exact ⟨h.bel, B, d, rfl⟩
theorem dcheck_c {m : List NT} {A : Option Addr} {c : Nat} {w : World} (hA : Row w (Lt w) A c m) (ht : tots m ≤ 5000) : Calls Try.prog 13 #[.slice A m.length c] w fun e w' => Bel w w' ∧ e = .returned (.tuple #[.int .i64 (checkN m).1, .int .i64 ((checkN m).2 : Nat)]) := dcheckK_c hA ht
theorem dreach_c {m : List NT} {A : Option Addr} {c : Nat} {w : World} (hA : Row w (Lt w) A c m) (ht : tots m ≤ 5000) : Calls Try.prog 11 #[.slice A m.length c] w fun e w' => ∃ R, RchIs m R ∧ SsP R w e w' := by
  refine (reachK_c hA ht).mono ?_
  rintro e w' ⟨R, hR, hb, B, d, h⟩
  exact ⟨R, hR, hb, B, d, h⟩
end Go.Proofs.Ytkipmaoeejdncaa
