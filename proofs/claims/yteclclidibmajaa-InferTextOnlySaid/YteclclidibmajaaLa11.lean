/-
  What Lex gives, as one shape; a token's cells; where a fault is.
-/
import Derived.Test.YteclclidibmajaaLx11
import Derived.Test.YteclclidibmajaaRegion2
namespace Go.Proofs.Yteclclidibmajaa
open Go.RowKit Go.BigFrame
set_option linter.unusedVariables false
set_option linter.unusedSimpArgs false

/-- The cells of a token in a row, in whatever later world. -/
theorem tok_at {w : World} {T : TypeId} {A : Option Addr} {c i : Nat} {ts : List Tok} {t : Tok} (h : KRow w T 5 Tok.cs A c ts) (ht : ts[i]? = some t) :
    ∃ g o, A = some ⟨g, o, none⟩ ∧ ∀ W, Bel w W → W.cell? ⟨g, o + i * 5, none⟩ = some (.int .i64 t.k) ∧ W.cell? ⟨g, o + i * 5 + 1, none⟩ = some (.int .i64 t.a) ∧ W.cell? ⟨g, o + i * 5 + 2, none⟩ = some (.string (ofL t.s)) ∧ W.cell? ⟨g, o + i * 5 + 3, none⟩ = some (.string (ofL t.p)) ∧ W.cell? ⟨g, o + i * 5 + 4, none⟩ = some (.bool t.h) := by
  obtain ⟨g, o, rfl, hg, hc⟩ := h.at_ tok_len ht (by decide)
  refine ⟨g, o, rfl, fun W hb => ⟨?_, ?_, ?_, ?_, ?_⟩⟩
  · have := hc 0 _ rfl; rw [Nat.add_zero] at this; exact (hb.cell hg).trans this
  · exact (hb.cell hg).trans (hc 1 _ rfl)
  · exact (hb.cell hg).trans (hc 2 _ rfl)
  · exact (hb.cell hg).trans (hc 3 _ rfl)
  · exact (hb.cell hg).trans (hc 4 _ rfl)
theorem lex_ok {T : TypeId} {s : ByteArray} {ts : List Tok} {w : World} {e : Ending} {w' : World} (h : LexPost T s (.ok ts) w e w') : Bel w w' ∧ ∃ A c, e = .returned (.tuple #[.slice A ts.length c, .int .i64 s.size, .int .i64 0]) ∧ KRow w' T 5 Tok.cs A c ts ∧ ∀ k, k ∈ rowT A → w.heap.size ≤ k := h
theorem lex_err {T : TypeId} {s : ByteArray} {b c : Nat} {w : World} {e : Ending} {w' : World} (h : LexPost T s (.error (b, c)) w e w') : Bel w w' ∧ e = .returned (.tuple #[.slice none 0 0, .int .i64 b, .int .i64 c]) := h
theorem bel_only {w w' : World} (h : Bel w w') : Only [] w w' := Only.of_below (S := []) h fun _ hk _ => hk
theorem Bel.drew (w : World) : Bel w w.drew := (Below.refl _ _).drew
theorem Bel.of_later {W : World} (X : Later [] W) : Bel W X.w := bel_of_only X.h
/-- The parts of a result. -/
def toksR : LexR → List Tok | .ok ts => ts | .error _ => []
def numR (s : ByteArray) : LexR → Nat | .ok _ => s.size | .error (b, _) => b
def errR : LexR → Nat | .ok _ => 0 | .error (_, c) => c
/-- What Lex gives, as one shape. -/
theorem lex_any {T : TypeId} {s : ByteArray} {r : LexR} {w : World} {e : Ending} {w' : World} (h : LexPost T s r w e w') :
    Bel w w' ∧ ∃ A c, e = .returned (.tuple #[.slice A (toksR r).length c, .int .i64 (numR s r), .int .i64 (errR r)]) ∧ KRow w' T 5 Tok.cs A c (toksR r) := by
  match r, h with
  | .ok ts, h => obtain ⟨hb, A, c, he, hr, _⟩ := lex_ok h; exact ⟨hb, A, c, he, hr⟩
  | .error (b, c), h => obtain ⟨hb, he⟩ := lex_err h; exact ⟨hb, none, 0, he, KRow.nil _ _ _ _⟩
theorem rs_toks {l : List UInt8} {a : Nat} {r : LexR} (h : Rs l a r) : (toksR r).length ≤ l.length ∧ ∀ t ∈ toksR r, Good t ∧ t.k ≤ 8 ∧ t.s.length ≤ l.length ∧ t.p.length ≤ l.length := by
  match r, h with
  | .ok ts, h =>
    refine ⟨lx_count h, fun t ht => ?_⟩
    obtain ⟨h1, h2, h3, _⟩ := lx_good h t ht
    refine ⟨h1, ?_, h2, h3⟩
    by_cases h0 : t.k = 0
    · omega
    · exact (h1.2.1 h0).1
  | .error (b, c), h => exact ⟨Nat.zero_le _, fun t ht => by cases ht⟩
theorem er_bound {l : List UInt8} {a b c : Nat} (h : Er l a b c) : b ≤ a + l.length ∧ c ≠ 0 := by
  induction h with
  | text l a k b c hf _ ih => have := find2_lt hf; rw [List.length_drop] at ih; exact ⟨by omega, ih.2⟩
  | dir l a e t b c hf hc hd _ ih => have := find2_lt hc; rw [List.length_drop] at this ih; have := find2_lt hf; exact ⟨by omega, ih.2⟩
  | trunc l a hf hc => exact ⟨by omega, by decide⟩
  | bad l a e c hf hc hd => exact ⟨by omega, by rcases dirOf_err hd with h | h <;> omega⟩
/-- What Lex gives is one of these. -/
theorem lexOf_total (s : ByteArray) : ∃ r, LexOf s r ∧ numR s r ≤ s.size ∧ (s.size ≤ 5000 → errR r = 0 → ∃ ts, r = .ok ts ∧ Lx (toL s) 0 ts) ∧ (errR r ≠ 0 → toksR r = []) := by
  by_cases hb : 65536 < s.size
  · exact ⟨.error (0, 6), by unfold LexOf; rw [if_pos hb], Nat.zero_le _, fun h => by omega, fun _ => rfl⟩
  · obtain ⟨r, hr⟩ := rs_total (toL s) 0
    refine ⟨r, by unfold LexOf; rw [if_neg hb]; exact hr, ?_, ?_, ?_⟩
    · match r, hr with
      | .ok ts, _ => exact Nat.le_refl _
      | .error (b, c), hr => have := (er_bound hr).1; rw [toL_len] at this; simp only [numR]; omega
    · match r, hr with
      | .ok ts, hr => exact fun _ _ => ⟨ts, rfl, hr⟩
      | .error (b, c), hr => exact fun _ h => absurd h (er_bound hr).2
    · match r, hr with
      | .ok ts, _ => exact fun h => absurd rfl h
      | .error (b, c), _ => exact fun _ => rfl
end Go.Proofs.Yteclclidibmajaa
