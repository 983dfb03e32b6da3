/-
  What Parse gives, as one shape; alive.
-/
import Derived.Test.YtgbppdgpengcoaaDoorPa12
namespace Go.Proofs.YtgbppdgpengcoaaDoor
open Go.RowKit Go.BigFrame NT
set_option linter.unusedVariables false
set_option linter.unusedSimpArgs false

/-- The parts of a result. -/
def nodesR : ParR → List NT | .ok l => l | .error _ => []
def pnumR (s : ByteArray) : ParR → Nat | .ok _ => s.size | .error (b, _) => b
def perrR : ParR → Nat | .ok _ => 0 | .error (_, c) => c
theorem par_any {s : ByteArray} {r : ParR} {w : World} {e : Ending} {w' : World} (h : ParPost s r w e w') :
    Bel w w' ∧ ∃ A c m, e = .returned (.tuple #[.slice A m.length c, .int .i64 (pnumR s r), .int .i64 (perrR r)]) ∧ ers m = nodesR r ∧ Row w' (Fr w w') A c m := by
  match r, h with
  | .ok l, ⟨hb, A, c, m, h1, h2, h3⟩ => exact ⟨hb, A, c, m, h3, h1, h2⟩
  | .error (b, c), ⟨hb, h⟩ => exact ⟨hb, none, 0, [], h, by simp [ers, nodesR], Row.nil _ _⟩
theorem NT.Row.lt {w w' : World} {A : Option Addr} {c : Nat} {l : List NT} (h : Row w' (Fr w w') A c l) : Row w' (Lt w') A c l := h.same (fun _ hb => hb.2) (fun _ _ _ => rfl)
theorem alive1 : LexOf ⟨#[123, 123, 105, 102, 32, 46, 97, 125, 125, 120, 123, 123, 101, 108, 115, 101, 125, 125, 121, 123, 123, 101, 110, 100, 125, 125]⟩ (.ok [⟨2, 0, [], [97], true⟩, text 9 [120], ⟨7, 10, [], [], false⟩, text 18 [121], ⟨8, 19, [], [], false⟩]) := by
  unfold LexOf
  rw [if_neg (by decide)]
  exact Lx.dir [123, 123, 105, 102, 32, 46, 97, 125, 125, 120, 123, 123, 101, 108, 115, 101, 125, 125, 121, 123, 123, 101, 110, 100, 125, 125] 0 5 ⟨2, 0, [], [97], true⟩ _ rfl rfl rfl
    (Lx.text [120, 123, 123, 101, 108, 115, 101, 125, 125, 121, 123, 123, 101, 110, 100, 125, 125] 9 0 _ rfl
      (Lx.dir [123, 123, 101, 108, 115, 101, 125, 125, 121, 123, 123, 101, 110, 100, 125, 125] 10 4 ⟨7, 0, [], [], false⟩ _ rfl rfl rfl
        (Lx.text [121, 123, 123, 101, 110, 100, 125, 125] 18 0 _ rfl
          (Lx.dir [123, 123, 101, 110, 100, 125, 125] 19 3 ⟨8, 0, [], [], false⟩ _ rfl rfl rfl (Lx.nil _)))))
theorem alive2 : LexOf ⟨#[120, 123, 123, 101, 110, 100, 125, 125]⟩ (.ok [text 0 [120], ⟨8, 1, [], [], false⟩]) := by
  unfold LexOf
  rw [if_neg (by decide)]
  exact Lx.text [120, 123, 123, 101, 110, 100, 125, 125] 0 0 _ rfl (Lx.dir [123, 123, 101, 110, 100, 125, 125] 1 3 ⟨8, 0, [], [], false⟩ _ rfl rfl rfl (Lx.nil _))
theorem alive3 : parR (.ok [⟨2, 0, [], [97], true⟩, text 9 [120], ⟨7, 10, [], [], false⟩, text 18 [121], ⟨8, 19, [], [], false⟩]) = .ok [nd ⟨2, 0, [], [97], true⟩ true [nd (text 9 [120]) false [] []] [nd (text 18 [121]) false [] []]] := rfl
theorem alive4 : parR (.ok [text 0 [120], ⟨8, 1, [], [], false⟩]) = .error (1, 13) := rfl
/-- A row that is one If with one node in each of its parts. -/
theorem alive5 {m : List NT} {t : Tok} {e : Bool} {x y : NT} (h : ers m = [nd t e [x] [y]]) : ∃ z, m = [z] ∧ z.k = t.k ∧ z.b.length = 1 ∧ z.l.length = 1 := by
  match m, h with
  | [z], h =>
    simp only [ers] at h
    injection h with h
    refine ⟨z, rfl, ?_, ?_, ?_⟩
    · rw [← er_k, h]; rfl
    · rw [← ers_len, ← er_b, h]; rfl
    · rw [← ers_len, ← er_l, h]; rfl
  | [], h => simp [ers] at h
  | _ :: _ :: _, h => simp [ers] at h
theorem alive6 {w1 w2 : World} {A : Option Addr} {c : Nat} {z : NT} {k : Nat} (hR : Row w1 (Lt w1) A c [z]) (hz : z.k = k ∧ z.b.length = 1 ∧ z.l.length = 1) (hb : Bel w1 w2) :
    ∃ g o, A = some ⟨g, o, none⟩ ∧ w2.cell? ⟨g, o, none⟩ = some (.int .i64 k) ∧ w2.cell? ⟨g, o + 6, none⟩ = some (.slice z.A 1 z.c) ∧ w2.cell? ⟨g, o + 7, none⟩ = some (.slice z.B 1 z.d) := by
  obtain ⟨g, o, hA, hg, hc⟩ := hR.cells (i := 0) rfl
  obtain ⟨a0, _, _, _, _, _, a6, a7⟩ := hc _ hb
  rw [hz.1] at a0
  rw [hz.2.1] at a6
  rw [hz.2.2] at a7
  rw [Nat.zero_mul, Nat.add_zero] at a0 a6 a7
  exact ⟨g, o, hA, a0, a6, a7⟩
set_option maxRecDepth 100000 in
set_option maxHeartbeats 3200000 in
theorem alive_c (w : World) (hT : MX w) : Calls Tryd.prog 9 #[] w fun e w' => e = .returned (.bool true) ∧ Bel w w' := by
  have HT := Lib.hid hT
  have H1 := Lib.hid (fun W (h : MX W) => by have := parse_c _ _ W h alive1; rw [alive3] at this; exact this)
  have H2 := Lib.hid (fun W (h : MX W) => by have := parse_c _ _ W h alive2; rw [alive4] at this; exact this)
  clear hT
  go_enter Tryd.func9, Tryd.ntmps9
  go_wp2_with (first | (go_at_call 10; ((with_reducible refine (H1.out _ HT.out).mono ?_); rintro e w1 hp; obtain ⟨hb, A, c, m, hers, hrow, rfl⟩ := hp; obtain ⟨z, rfl, hz0, hz1, hz2⟩ := alive5 hers; have HB1 := Lib.hid hb; have HR1 := Lib.hid hrow.lt; have HZ := Lib.hid (And.intro hz0 (And.intro hz1 hz2)); clear hb hers hrow hz0 hz1 hz2)) | (go_at_call 10; ((with_reducible refine (H2.out _ (HT.out.bel HB1.out)).mono ?_); rintro e w2 hp; obtain ⟨hb, rfl⟩ := hp; obtain ⟨g, o, hA, a0, a6, a7⟩ := alive6 HR1.out HZ.out hb; subst hA; have a0 : w2.cell? ⟨g, o, none⟩ = some (.int .i64 2) := a0; have HB2 := Lib.hid (HB1.out.trans hb); clear hb)))
  go_ret
  exact ⟨rfl, HB2.out⟩
end Go.Proofs.YtgbppdgpengcoaaDoor
