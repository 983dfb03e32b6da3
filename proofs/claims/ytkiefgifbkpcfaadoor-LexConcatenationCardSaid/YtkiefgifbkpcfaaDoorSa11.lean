/-
  Contracts: same, slices.Equal of tokens, alive.
-/
import Derived.Test.YtkiefgifbkpcfaaDoorRl11
import Derived.Test.YtkiefgifbkpcfaaDoorFn11
namespace Go.Proofs.YtkiefgifbkpcfaaDoor
open Go.RowKit Go.BigFrame
set_option linter.unusedVariables false
set_option linter.unusedSimpArgs false

/-- The cells of a token in a row, in whatever later world. -/
theorem tok_at {w : World} {T : TypeId} {A : Option Addr} {c i : Nat} {ts : List Tok} {t : Tok} (h : KRow w T 5 Tok.cs A c ts) (ht : ts[i]? = some t) :
    ∃ g o, A = some ⟨g, o, none⟩ ∧ ∀ W, Bel w W → W.cell? ⟨g, o + i * 5, none⟩ = some (.int .i64 t.k) ∧ W.cell? ⟨g, o + i * 5 + 1, none⟩ = some (.int .i64 t.a) ∧ W.cell? ⟨g, o + i * 5 + 2, none⟩ = some (.string (ofL t.s)) ∧ W.cell? ⟨g, o + i * 5 + 3, none⟩ = some (.string (ofL t.p)) ∧ W.cell? ⟨g, o + i * 5 + 4, none⟩ = some (.bool t.h) := by
  obtain ⟨g, o, rfl, hg, hc⟩ := h.at_ tok_len ht (by decide)
  refine ⟨g, o, rfl, fun W hb => ⟨?_, ?_, ?_, ?_, ?_⟩⟩
  · have := hc 0 _ rfl; rw [Nat.add_zero] at this; exact (hb.cell hg).trans this
  · exact (hb.cell hg).trans (hc 1 _ rfl)
  · exact (hb.cell hg).trans (hc 2 _ rfl)
  · exact (hb.cell hg).trans (hc 3 _ rfl)
  · exact (hb.cell hg).trans (hc 4 _ rfl)
set_option maxRecDepth 100000 in
set_option maxHeartbeats 3200000 in
theorem same_c {w : World} {A B : Option Addr} {c d : Nat} {ts : List Tok} (hA : KRow w 32 5 Tok.cs A c ts) (hB : KRow w 35 5 Tok.cs B d ts) (hl : ts.length ≤ 100000) :
    Calls Tryd.prog 11 #[.slice A ts.length c, .slice B ts.length d] w fun e w' => e = .returned (.bool true) ∧ Bel w w' := by
  obtain ⟨n, hN⟩ : ∃ n, n = ts.length := ⟨_, rfl⟩
  rw [← hN] at hl ⊢
  have HA := Lib.hid hA
  have HB := Lib.hid hB
  have HN := Lib.hid hN
  clear hA hB hN
  go_enter Tryd.func11, Tryd.ntmps11
  go_wp2_with fail
  go_loopw [14] (fun s14 wr => ∃ k : Nat, k ≤ n ∧ s14 = .int .i64 k ∧ Hid (Bel w wr)) (fun s14 _ => n - (intOf s14).toNat)
  case atStart => exact ⟨0, Nat.zero_le _, rfl, Lib.hid (Bel.refl _)⟩
  case round =>
    obtain ⟨k, hk, rfl, HBR⟩ := hrel
    by_cases hlt : k < n
    · have hkt := List.getElem?_eq_getElem (l := ts) (i := k) (by have := HN.out; omega)
      generalize ts[k]'(by have := HN.out; omega) = t at hkt
      obtain ⟨g, o, hAA, ha⟩ := tok_at HA.out hkt
      obtain ⟨g', o', hBB, hb⟩ := tok_at HB.out hkt
      subst hAA hBB
      obtain ⟨a0, a1, a2, a3, a4⟩ := ha wr HBR.out
      have HOB := Lib.hid (fun ob => hb (wr.alloc ob) (HBR.out.trans (Bel.alloc _ ob)))
      clear ha hb hkt
      obtain ⟨b0, b1, b2, b3, b4⟩ : (∀ ob, (wr.alloc ob).cell? ⟨g', o' + k * 5, none⟩ = some (.int .i64 t.k)) ∧ (∀ ob, (wr.alloc ob).cell? ⟨g', o' + k * 5 + 1, none⟩ = some (.int .i64 t.a)) ∧ (∀ ob, (wr.alloc ob).cell? ⟨g', o' + k * 5 + 2, none⟩ = some (.string (ofL t.s))) ∧ (∀ ob, (wr.alloc ob).cell? ⟨g', o' + k * 5 + 3, none⟩ = some (.string (ofL t.p))) ∧ (∀ ob, (wr.alloc ob).cell? ⟨g', o' + k * 5 + 4, none⟩ = some (.bool t.h)) :=
        ⟨fun ob => (HOB.out ob).1, fun ob => (HOB.out ob).2.1, fun ob => (HOB.out ob).2.2.1, fun ob => (HOB.out ob).2.2.2.1, fun ob => (HOB.out ob).2.2.2.2⟩
      go_wp2_with fail
      go_quiet (fail)
      go_wp2_with fail
      go_roundw
      case rel => exact ⟨k + 1, by omega, by go_num, Lib.hid (HBR.out.trans ((Bel.alloc _ _).trans (Bel.draw _ _)))⟩
      case measure => simp [intOf]; omega
    · obtain rfl : k = n := by omega
      go_wp2_with fail
      go_ret
      exact ⟨rfl, HBR.out⟩
set_option maxRecDepth 100000 in
set_option maxHeartbeats 3200000 in
theorem equalT_c {w : World} {A B : Option Addr} {c d : Nat} {ts : List Tok} (hA : KRow w 32 5 Tok.cs A c ts) (hB : KRow w 32 5 Tok.cs B d ts) (n : Nat) (hN : ts.length = n) (hl : n ≤ 100000) :
    Calls Tryd.prog 15 #[.slice A n c, .slice B n d] w fun e w' => e = .returned (.bool true) ∧ Bel w w' := by
  have HA := Lib.hid hA
  have HB := Lib.hid hB
  have HN := Lib.hid hN.symm
  clear hA hB hN
  go_enter Tryd.func15, Tryd.ntmps15
  go_wp2_with fail
  go_loopw [13] (fun s13 wr => ∃ k : Nat, k ≤ n ∧ s13 = .int .i64 k ∧ Hid (Bel w wr)) (fun s13 _ => n - (intOf s13).toNat)
  case atStart => exact ⟨0, Nat.zero_le _, rfl, Lib.hid (Bel.refl _)⟩
  case round =>
    obtain ⟨k, hk, rfl, HBR⟩ := hrel
    by_cases hlt : k < n
    · have hkt := List.getElem?_eq_getElem (l := ts) (i := k) (by have := HN.out; omega)
      generalize ts[k]'(by have := HN.out; omega) = t at hkt
      obtain ⟨g, o, hAA, ha⟩ := tok_at HA.out hkt
      obtain ⟨g', o', hBB, hb⟩ := tok_at HB.out hkt
      subst hAA hBB
      obtain ⟨a0, a1, a2, a3, a4⟩ := ha wr HBR.out
      obtain ⟨b0, b1, b2, b3, b4⟩ := hb wr HBR.out
      clear ha hb hkt
      go_wp2_with fail
      go_quiet (fail)
      go_wp2_with fail
      go_roundw
      case rel => exact ⟨k + 1, by omega, by go_num, Lib.hid (HBR.out.trans (Bel.draw _ _))⟩
      case measure => simp [intOf]; omega
    · obtain rfl : k = n := by omega
      go_wp2_with fail
      go_ret
      exact ⟨rfl, HBR.out⟩

/-! ### alive -/
theorem alive1 : LexOf ⟨#[97, 123, 123, 46, 98, 125, 125]⟩ (.ok [⟨0, 0, [97], [], false⟩, ⟨1, 1, [], [98], true⟩]) := by
  unfold LexOf
  rw [if_neg (by decide)]
  exact Lx.text [97, 123, 123, 46, 98, 125, 125] 0 0 _ rfl (Lx.dir [123, 123, 46, 98, 125, 125] 1 2 ⟨1, 0, [], [98], true⟩ [] rfl rfl rfl (Lx.nil _))
theorem alive2 : LexOf ⟨#[123, 123, 105, 102, 125, 125]⟩ (.error (0, 5)) := by
  unfold LexOf
  rw [if_neg (by decide)]
  exact Er.bad [123, 123, 105, 102, 125, 125] 0 2 5 rfl rfl rfl
theorem lex_ok {T : TypeId} {s : ByteArray} {ts : List Tok} {w : World} {e : Ending} {w' : World} (h : LexPost T s (.ok ts) w e w') : Bel w w' ∧ ∃ A c, e = .returned (.tuple #[.slice A ts.length c, .int .i64 s.size, .int .i64 0]) ∧ KRow w' T 5 Tok.cs A c ts ∧ ∀ k, k ∈ rowT A → w.heap.size ≤ k := h
theorem lex_err {T : TypeId} {s : ByteArray} {b c : Nat} {w : World} {e : Ending} {w' : World} (h : LexPost T s (.error (b, c)) w e w') : Bel w w' ∧ e = .returned (.tuple #[.slice none 0 0, .int .i64 b, .int .i64 c]) := h
set_option maxRecDepth 100000 in
set_option maxHeartbeats 3200000 in
theorem alive_c (w : World) (hT : MX w) : Calls Tryd.prog 8 #[] w fun e w' => e = .returned (.bool true) ∧ Bel w w' := by
  have HT := Lib.hid hT
  have H1 := Lib.hid (fun W (h : MX W) => lex_c _ _ W h alive1)
  have H2 := Lib.hid (fun W (h : MX W) => lex_c _ _ W h alive2)
  have q1 : ((ofL [97]).toList == [97]) = true := by rw [ByteArray.toList_eq]; rfl
  have q2 : ((ofL [98]).toList == [98]) = true := by rw [ByteArray.toList_eq]; rfl
  clear hT
  go_enter Tryd.func8, Tryd.ntmps8
  go_wp2_with (first | (go_at_call 9; ((with_reducible refine (H1.out _ HT.out).mono ?_); rintro e w1 hp; obtain ⟨hb, A1, c1, rfl, hr, _⟩ := lex_ok hp; have HB1 := Lib.hid hb; have HR1 := Lib.hid hr; clear hp hb hr)) | (go_at_call 9; ((with_reducible refine (H2.out _ (HT.out.bel HB1.out)).mono ?_); rintro e w2 hp; obtain ⟨hb, rfl⟩ := lex_err hp; have HB2 := Lib.hid (HB1.out.trans hb); obtain ⟨g, o, hA, h0⟩ := tok_at HR1.out (i := 0) rfl; obtain ⟨g', o', hA', h1⟩ := tok_at HR1.out (i := 1) rfl; subst hA; injection hA' with hA'; injection hA' with e1 e2; subst e1 e2; obtain ⟨a0, a1, a2, a3, a4⟩ := h0 _ hb; obtain ⟨b0, b1, b2, b3, b4⟩ := h1 _ hb; clear hp hb h0 h1)))
  go_ret
  exact ⟨rfl, HB2.out⟩
end Go.Proofs.YtkiefgifbkpcfaaDoor
