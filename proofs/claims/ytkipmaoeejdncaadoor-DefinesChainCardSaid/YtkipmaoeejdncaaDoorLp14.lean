/-
  What Parse gives, as one shape.
  Contract: the law's parsed.
-/
import Derived.Test.YtkipmaoeejdncaaDoorRlist
import Derived.Test.YtkipmaoeejdncaaDoorEq13
import Derived.Test.YtkipmaoeejdncaaDoorPz13
namespace Go.Proofs.YtkipmaoeejdncaaDoor
open Go.RowKit Go.BigFrame NT
set_option linter.unusedVariables false
set_option linter.unusedSimpArgs false

/-- The parts of a result. -/
def nodesR : ParR → List NT | .ok l => l | .error _ => []
def pnumR (s : ByteArray) : ParR → Nat | .ok _ => s.size | .error (b, _) => b
def perrR : ParR → Nat | .ok _ => 0 | .error (_, c) => c
theorem par_any {s : ByteArray} {r : ParR} {w : World} {e : Ending} {w' : World} (h : ParPost s r w e w') :
    Bel w w' ∧ ∃ A c m, e = .returned (.tuple #[.slice A m.length c, .int .i64 (pnumR s r), .int .i64 (perrR r)]) ∧ ers m = nodesR r ∧ Row w' (Fr w w') A c m := by
  match r, h with
  | .ok l, ⟨hb, A, c, m, h1, h2, h3⟩ => exact ⟨hb, A, c, m, h3, h1, h2⟩
  | .error (b, c), ⟨hb, h⟩ => exact ⟨hb, none, 0, [], h, by simp [ers, nodesR], Row.nil _ _⟩
theorem NT.Row.lt {w w' : World} {A : Option Addr} {c : Nat} {l : List NT} (h : Row w' (Fr w w') A c l) : Row w' (Lt w') A c l := h.same (fun _ hb => hb.2) (fun _ _ _ => rfl)
theorem lexE_code {s : ByteArray} {b c : Nat} (h : LexOf s (.error (b, c))) : c ≠ 0 := by
  unfold LexOf at h
  split at h
  · injection h with h; injection h with _ h; omega
  · exact (er_bound h).2
end Go.Proofs.YtkipmaoeejdncaaDoor

namespace Go.Proofs.YtkipmaoeejdncaaDoor
open Go.RowKit Go.BigFrame NT
set_option linter.unusedVariables false
set_option linter.unusedSimpArgs false

/-- parsed gives a row of these nodes. -/
def PdP (l : List NT) (w : World) (e : Ending) (w' : World) : Prop := Bel w w' ∧ ∃ A c m, e = .returned (.slice A m.length c) ∧ Row w' (Fr w w') A c m ∧ ers m = l
theorem parsed_ok (s : ByteArray) (hs : s.size ≤ 5000) (r : LexR) (hr : LexOf s r) (l : List NT) (hp : parR r = .ok l) (w : World) : Calls Tryd.prog 7 #[.string s] w (PdP l w) := by
  have HR := Lib.hid (fun W => by have := refParse_c s r W hr; rw [hp] at this; exact this)
  have hi : ¬ (5000 : Int) < (s.size : Int) := by omega
  clear hr hp
  go_enter Tryd.func7, Tryd.ntmps7
  go_wp2_with (go_at_call 15; ((with_reducible refine (HR.out _).mono ?_); rintro e w1 hp; obtain ⟨hb, A, c, m, hers, hrow, rfl⟩ := hp; have HB1 := Lib.hid hb; have HR1 := Lib.hid hrow; have HE := Lib.hid hers; clear hb hers hrow))
  go_ret
  exact ⟨HB1.out, A, c, m, rfl, HR1.out, HE.out⟩
theorem parsed_err (s : ByteArray) (hs : s.size ≤ 5000) (r : LexR) (hr : LexOf s r) (a k : Nat) (hk : k ≠ 0) (hp : parR r = .error (a, k)) (w : World) : Calls Tryd.prog 7 #[.string s] w (PdP [] w) := by
  have HR := Lib.hid (fun W => by have := refParse_c s r W hr; rw [hp] at this; exact this)
  have hi : ¬ (5000 : Int) < (s.size : Int) := by omega
  have hk1 : ((k : Int) != 0) = true := bne_iff_ne.2 (by omega)
  have hk2 : ¬ (k : Int) = 0 := by omega
  clear hr hp hk
  go_enter Tryd.func7, Tryd.ntmps7
  go_wp2_with (go_at_call 15; ((with_reducible refine (HR.out _).mono ?_); rintro e w1 hp; obtain ⟨hb, rfl⟩ := hp; have HB1 := Lib.hid hb; clear hb))
  go_ret
  exact ⟨HB1.out, none, 0, [], rfl, Row.nil _ _, by simp [ers]⟩
theorem parsed_big (s : ByteArray) (hs : 5000 < s.size) (w : World) : Calls Tryd.prog 7 #[.string s] w (PdP [] w) := by
  have hi : (5000 : Int) < (s.size : Int) := by omega
  go_enter Tryd.func7, Tryd.ntmps7
  go_wp2_with fail
  go_ret
  exact ⟨Bel.refl _, none, 0, [], rfl, Row.nil _ _, by simp [ers]⟩
theorem parsed_ex (s : ByteArray) : ∃ l, Parsed l ∧ ∀ w, Calls Tryd.prog 7 #[.string s] w (PdP l w) := by
  by_cases hs : s.size ≤ 5000
  · obtain ⟨r, hlo, _, hok, _⟩ := lexOf_total s
    cases hp : parR r with
    | error ak =>
      obtain ⟨a, k⟩ := ak
      have hk : k ≠ 0 := by
        unfold parR at hp
        cases r with
        | error bc =>
          dsimp only at hp
          injection hp with hp
          subst hp
          exact lexE_code hlo
        | ok ts =>
          dsimp only at hp
          cases hq : P ts 0 false 0 0 with
          | error e => rw [hq] at hp; injection hp with hp; subst hp; exact P_code hq
          | ok x => rw [hq] at hp; cases hp
      exact ⟨[], parsed_nil, fun w => parsed_err s hs r hlo a k hk hp w⟩
    | ok l =>
      refine ⟨l, ?_, fun w => parsed_ok s hs r hlo l hp w⟩
      unfold parR at hp
      cases r with
      | error bc => cases hp
      | ok ts =>
        dsimp only at hp
        cases hq : P ts 0 false 0 0 with
        | error e => rw [hq] at hp; cases hp
        | ok x =>
          obtain ⟨l', r', c'⟩ := x
          rw [hq] at hp
          injection hp with hp
          subst hp
          obtain rfl := P_top_rest hq
          unfold LexOf at hlo
          rw [if_neg (by omega)] at hlo
          exact ⟨toL s, ts, c', by rw [toL_len]; exact hs, hlo, hq⟩
  · exact ⟨[], parsed_nil, fun w => parsed_big s (by omega) w⟩
end Go.Proofs.YtkipmaoeejdncaaDoor
