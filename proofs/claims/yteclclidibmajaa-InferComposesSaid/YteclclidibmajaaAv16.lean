/-
  What Parse gives, as one shape.
  Contract: the law's parsed.
  slices.Equal of ints; the chapter's examples of layer 16: alive.
  The chapter's examples of layer 16: alive; what parsed gives.
-/
import Derived.Test.YteclclidibmajaaRlist
import Derived.Test.YteclclidibmajaaPz13
import Derived.Test.YteclclidibmajaaAi16
namespace Go.Proofs.Yteclclidibmajaa
open Go.RowKit Go.BigFrame NT
set_option linter.unusedVariables false
set_option linter.unusedSimpArgs false

/-- The parts of a result. -/
def nodesR : ParR → List NT | .ok l => l | .error _ => []
def pnumR (s : ByteArray) : ParR → Nat | .ok _ => s.size | .error (b, _) => b
def perrR : ParR → Nat | .ok _ => 0 | .error (_, c) => c
theorem par_any {s : ByteArray} {r : ParR} {w : World} {e : Ending} {w' : World} (h : ParPost s r w e w') :
    Bel w w' ∧ ∃ A c m, e = .returned (.tuple #[.slice A m.length c, .int .i64 (pnumR s r), .int .i64 (perrR r)]) ∧ ers m = nodesR r ∧ Row w' (Fr w w') A c m := by
  match r, h with
  | .ok l, ⟨hb, A, c, m, h1, h2, h3⟩ => exact ⟨hb, A, c, m, h3, h1, h2⟩
  | .error (b, c), ⟨hb, h⟩ => exact ⟨hb, none, 0, [], h, by simp [ers, nodesR], Row.nil _ _⟩
theorem NT.Row.lt {w w' : World} {A : Option Addr} {c : Nat} {l : List NT} (h : Row w' (Fr w w') A c l) : Row w' (Lt w') A c l := h.same (fun _ hb => hb.2) (fun _ _ _ => rfl)
theorem lexE_code {s : ByteArray} {b c : Nat} (h : LexOf s (.error (b, c))) : c ≠ 0 := by
  unfold LexOf at h
  split at h
  · injection h with h; injection h with _ h; omega
  · exact (er_bound h).2
end Go.Proofs.Yteclclidibmajaa

namespace Go.Proofs.Yteclclidibmajaa
open Go.RowKit Go.BigFrame NT
set_option linter.unusedVariables false
set_option linter.unusedSimpArgs false

/-- parsed gives a row of these nodes. -/
def PdP (l : List NT) (w : World) (e : Ending) (w' : World) : Prop := Bel w w' ∧ ∃ A c m, e = .returned (.slice A m.length c) ∧ Row w' (Fr w w') A c m ∧ ers m = l
theorem parsed_ok (s : ByteArray) (hs : s.size ≤ 5000) (r : LexR) (hr : LexOf s r) (l : List NT) (hp : parR r = .ok l) (w : World) : Calls Try.prog 7 #[.string s] w (PdP l w) := by
  have HR := Lib.hid (fun W => by have := refParse_c s r W hr; rw [hp] at this; exact this)
  have hi : ¬ (5000 : Int) < (s.size : Int) := by omega
  clear hr hp
  go_enter Try.func7, Try.ntmps7
  go_wp2_with (go_at_call 17; ((with_reducible refine (HR.out _).mono ?_); rintro e w1 hp; obtain ⟨hb, A, c, m, hers, hrow, rfl⟩ := hp; have HB1 := Lib.hid hb; have HR1 := Lib.hid hrow; have HE := Lib.hid hers; clear hb hers hrow))
  go_ret
  exact ⟨HB1.out, A, c, m, rfl, HR1.out, HE.out⟩
theorem parsed_err (s : ByteArray) (hs : s.size ≤ 5000) (r : LexR) (hr : LexOf s r) (a k : Nat) (hk : k ≠ 0) (hp : parR r = .error (a, k)) (w : World) : Calls Try.prog 7 #[.string s] w (PdP [] w) := by
  have HR := Lib.hid (fun W => by have := refParse_c s r W hr; rw [hp] at this; exact this)
  have hi : ¬ (5000 : Int) < (s.size : Int) := by omega
  have hk1 : ((k : Int) != 0) = true := bne_iff_ne.2 (by omega)
  have hk2 : ¬ (k : Int) = 0 := by omega
  clear hr hp hk
  go_enter Try.func7, Try.ntmps7
  go_wp2_with (go_at_call 17; ((with_reducible refine (HR.out _).mono ?_); rintro e w1 hp; obtain ⟨hb, rfl⟩ := hp; have HB1 := Lib.hid hb; clear hb))
  go_ret
  exact ⟨HB1.out, none, 0, [], rfl, Row.nil _ _, by simp [ers]⟩
theorem parsed_big (s : ByteArray) (hs : 5000 < s.size) (w : World) : Calls Try.prog 7 #[.string s] w (PdP [] w) := by
  have hi : (5000 : Int) < (s.size : Int) := by omega
  go_enter Try.func7, Try.ntmps7
  go_wp2_with fail
  go_ret
  exact ⟨Bel.refl _, none, 0, [], rfl, Row.nil _ _, by simp [ers]⟩
theorem parsed_ex (s : ByteArray) : ∃ l, Parsed l ∧ ∀ w, Calls Try.prog 7 #[.string s] w (PdP l w) := by
  by_cases hs : s.size ≤ 5000
  · obtain ⟨r, hlo, _, hok, _⟩ := lexOf_total s
    cases hp : parR r with
    | error ak =>
      obtain ⟨a, k⟩ := ak
      have hk : k ≠ 0 := by
        unfold parR at hp
        cases r with
        | error bc =>
          dsimp only at hp
          injection hp with hp
          subst hp
          exact lexE_code hlo
        | ok ts =>
          dsimp only at hp
          cases hq : P ts 0 false 0 0 with
          | error e => rw [hq] at hp; injection hp with hp; subst hp; exact P_code hq
          | ok x => rw [hq] at hp; cases hp
      exact ⟨[], parsed_nil, fun w => parsed_err s hs r hlo a k hk hp w⟩
    | ok l =>
      refine ⟨l, ?_, fun w => parsed_ok s hs r hlo l hp w⟩
      unfold parR at hp
      cases r with
      | error bc => cases hp
      | ok ts =>
        dsimp only at hp
        cases hq : P ts 0 false 0 0 with
        | error e => rw [hq] at hp; cases hp
        | ok x =>
          obtain ⟨l', r', c'⟩ := x
          rw [hq] at hp
          injection hp with hp
          subst hp
          obtain rfl := P_top_rest hq
          unfold LexOf at hlo
          rw [if_neg (by omega)] at hlo
          exact ⟨toL s, ts, c', by rw [toL_len]; exact hs, hlo, hq⟩
  · exact ⟨[], parsed_nil, fun w => parsed_big s (by omega) w⟩
end Go.Proofs.Yteclclidibmajaa

namespace Go.Proofs.Yteclclidibmajaa
open Go.RowKit Go.BigFrame NT
set_option linter.unusedVariables false
set_option linter.unusedSimpArgs false
set_option maxRecDepth 100000

theorem cell_only16 {S : List Nat} {w w' : World} {a : Addr} {v : Value} (h : w.cell? a = some v) (ho : Only S w w') (hS : a.block ∉ S) : w'.cell? a = some v := by
  have hb : a.block < w.heap.size := by
    have : (w.cell? a).isSome := by rw [h]; rfl
    simp only [World.cell?] at this
    split at this
    · rename_i hh; exact (Array.getElem?_eq_some_iff.1 hh).1
    · simp at this
  exact (World.cell?_of_block (ho.block _ hb hS)).trans h
/-! ### slices.Equal of ints -/
set_option maxRecDepth 100000 in
set_option maxHeartbeats 1600000 in
theorem equali_c {w : World} {B1 B2 : Nat} {A1 A2 : Option Addr} {n1 n2 : Nat} {l1 l2 : List Int} (h1 : Reads w B1 A1 n1 (vis l1)) (h2 : Reads w B2 A2 n2 (vis l2)) (c1 c2 : Nat) (hn1 : n1 ≤ 1000000) (hn2 : n2 ≤ 1000000) :
    Calls Try.prog 11 #[.slice A1 n1 c1, .slice A2 n2 c2] w fun e w' => e = .returned (.bool (l1 == l2)) ∧ Only [] w w' := by
  have hl1 : l1.length = n1 := by have := h1.1; rwa [vis_length] at this
  have hl2 : l2.length = n2 := by have := h2.1; rwa [vis_length] at this
  by_cases hne : n1 = n2
  · subst hne
    have H1 := Lib.hid h1
    have H2 := Lib.hid h2
    have HL1 := Lib.hid hl1
    have HL2 := Lib.hid hl2
    obtain ⟨res, hres⟩ : ∃ res, res = (l1 == l2) := ⟨_, rfl⟩
    have HRES := Lib.hid hres
    rw [← hres]
    clear h1 h2 hl1 hl2 hres
    go_enter Try.func11, Try.ntmps11
    go_wp2
    go_loopw [13] (fun si wr => ∃ (i : Nat), i ≤ n1 ∧ si = .int .i64 i ∧ Hid (l1.take i = l2.take i) ∧ Hid (Only [] w wr)) (fun si _ => n1 - (intOf si).toNat)
    case atStart => exact ⟨0, Nat.zero_le _, rfl, Lib.hid rfl, Lib.hid (Only.refl _ _)⟩
    case round =>
      obtain ⟨i, hin, rfl, heq, hO⟩ := hrel
      by_cases hlt : i < n1
      · obtain ⟨g1, o1, rfl, hg1, hc1⟩ := H1.out.plain (by omega)
        obtain ⟨g2, o2, rfl, hg2, hc2⟩ := H2.out.plain (by omega)
        have hi1 : i < l1.length := by rw [HL1.out]; exact hlt
        have hi2 : i < l2.length := by rw [HL2.out]; exact hlt
        have d1 : ∀ k, (wr.drewN k).cell? ⟨g1, o1 + i, none⟩ = some (.int .i64 (l1[i]'hi1)) := fun k => cell_only16 (hc1 i _ (by rw [vis_getElem?, List.getElem?_eq_getElem hi1]; rfl)) (hO.out.drewN k) (by simp)
        have d2 : ∀ k, (wr.drewN k).cell? ⟨g2, o2 + i, none⟩ = some (.int .i64 (l2[i]'hi2)) := fun k => cell_only16 (hc2 i _ (by rw [vis_getElem?, List.getElem?_eq_getElem hi2]; rfl)) (hO.out.drewN k) (by simp)
        have ht1 : l1.take (i + 1) = l1.take i ++ [l1[i]'hi1] := by rw [List.take_add_one, List.getElem?_eq_getElem hi1]; rfl
        have ht2 : l2.take (i + 1) = l2.take i ++ [l2[i]'hi2] := by rw [List.take_add_one, List.getElem?_eq_getElem hi2]; rfl
        have HT1 := Lib.hid ht1
        have HT2 := Lib.hid ht2
        have hlti : (i : Int) < (n1 : Int) := by omega
        clear ht1 ht2 hc1 hc2
        have hne2 : l1[i]'hi1 ≠ l2[i]'hi2 → res = false := fun h => by
          rw [HRES.out, beq_eq_false_iff_ne]
          rintro rfl
          exact h rfl
        generalize l1[i]'hi1 = v1 at *
        generalize l2[i]'hi2 = v2 at *
        by_cases hv : v1 = v2
        · subst hv
          clear hne2
          go_wp2
          go_quiet (fail)
          go_wp2
          go_roundw
          case rel => exact ⟨i + 1, by omega, by go_num, Lib.hid (by rw [HT1.out, HT2.out, heq.out]), Lib.hid (hO.out.drewN _)⟩
          case measure => simp [intOf]; omega
        · have hr := hne2 hv
          have hvb : (v1 != v2) = true := by rw [bne_iff_ne]; exact hv
          subst hr
          clear hne2
          go_wp2
          go_quiet (fail)
          go_wp2
          go_ret
          exact ⟨rfl, hO.out.drewN _⟩
      · obtain rfl : i = n1 := by omega
        have hr : res = true := by
          rw [HRES.out, beq_iff_eq]
          have := heq.out
          rwa [List.take_of_length_le (by rw [HL1.out]; exact Nat.le_refl _), List.take_of_length_le (by rw [HL2.out]; exact Nat.le_refl _)] at this
        subst hr
        go_wp2
        go_ret
        exact ⟨rfl, hO.out⟩
  · have hr : (l1 == l2) = false := by
      rw [beq_eq_false_iff_ne]
      rintro rfl
      omega
    rw [hr]
    have hni : ((n1 : Int) != (n2 : Int)) = true := by rw [bne_iff_ne]; omega
    clear h1 h2 hl1 hl2 hr
    go_enter Try.func11, Try.ntmps11
    go_wp2
    go_ret
    exact ⟨rfl, Only.refl _ _⟩
theorem vin_vis (es : List Nat) : vin es = vis (es.map fun k : Nat => (k : Int)) := by unfold vin vis; rw [List.map_map]; rfl
theorem nat_beq (a b : List Nat) : ((a.map fun k : Nat => (k : Int)) == (b.map fun k : Nat => (k : Int))) = decide (a = b) := by
  rw [Bool.eq_iff_iff, beq_iff_eq, decide_eq_true_iff]
  constructor
  · intro h
    induction a generalizing b with
    | nil => cases b with
      | nil => rfl
      | cons y b => cases h
    | cons x a ih => cases b with
      | nil => cases h
      | cons y b =>
        rw [List.map_cons, List.map_cons, List.cons.injEq] at h
        rw [ih b h.2, show x = y by omega]
  · rintro rfl; rfl
theorem equale_c {w0 v0 w : World} {A1 A2 : Option Addr} {n1 n2 c1 c2 : Nat} {l1 l2 : List Nat} (h1 : Es w0 w A1 n1 c1 l1) (h2 : Es v0 w A2 n2 c2 l2) (hn1 : n1 ≤ 1000000) (hn2 : n2 ≤ 1000000) :
    Calls Try.prog 11 #[.slice A1 n1 c1, .slice A2 n2 c2] w fun e w' => e = .returned (.bool (decide (l1 = l2))) ∧ Bel w w' := by
  have r1 := h1.2.1.reads
  have r2 := h2.2.1.reads
  rw [vin_vis] at r1 r2
  refine (equali_c r1 r2 c1 c2 hn1 hn2).mono ?_
  rintro e w' ⟨rfl, hO⟩
  exact ⟨by rw [nat_beq], bel_of_only hO⟩
end Go.Proofs.Yteclclidibmajaa

namespace Go.Proofs.Yteclclidibmajaa
open Go.RowKit Go.BigFrame NT
set_option linter.unusedVariables false
set_option linter.unusedSimpArgs false
set_option maxRecDepth 100000

theorem PdP.row {l : List NT} {w : World} {e : Ending} {w' : World} (h : PdP l w e w') : Bel w w' ∧ ∃ A c m, e = .returned (.slice A m.length c) ∧ Row w' (Lt w') A c m ∧ ers m = l := by
  obtain ⟨hb, A, c, m, h1, h2, h3⟩ := h
  exact ⟨hb, A, c, m, h1, h2.lt, h3⟩
theorem tots_of {m l : List NT} (h : ers m = l) (hl : Parsed l) : tots m ≤ 100000 := by have := hl.tots; rw [← h, tots_ers] at this; omega
theorem ax_lex : LexOf axS (.ok axT) := by
  unfold LexOf
  rw [if_neg (by decide)]
  exact ax_lex0
theorem ay_lex : LexOf ayS (.ok ayT) := by
  unfold LexOf
  rw [if_neg (by decide)]
  exact ay_lex0
theorem ax_par : parR (.ok axT) = .ok axN := rfl
theorem ay_par : parR (.ok ayT) = .ok ayN := rfl
theorem ax_parsed : Parsed axN := ⟨_, _, 5, by decide, ax_lex0, rfl⟩
theorem ay_parsed : Parsed ayN := ⟨_, _, 3, by decide, ay_lex0, rfl⟩
theorem two_es (w : World) : Es w (w.alloc (.cells #[.int .i64 2, .int .i64 0] 3)) (some ⟨w.heap.size, 0, none⟩) 2 2 [2, 0] :=
  ⟨rfl, RowAt.of_blk (Blk.new w 3 [.int .i64 2, .int .i64 0]) (by show 2 ≤ maxLen; decide), by rw [rowT_some]; simp⟩
set_option maxHeartbeats 3200000 in
theorem alive_c (w : World) : Calls Try.prog 10 #[] w fun e w' => e = .returned (.bool true) ∧ Bel w w' := by
  have HP := Lib.hid (fun W => parsed_ok axS (by decide) _ ax_lex _ ax_par W)
  have HY := Lib.hid (fun W => parsed_ok ayS (by decide) _ ay_lex _ ay_par W)
  unfold axS at HP
  unfold ayS at HY
  go_enter Try.func10, Try.ntmps10
  go_wp2_with (first
    | (go_at_call 7; ((with_reducible refine (HP.out _).mono ?_); rintro e w1 hp; obtain ⟨hb, A, c, m, rfl, hr, he⟩ := hp.row; have HB1 := Lib.hid hb; have HC1 := Lib.hid (infer_c hr (tots_of he ax_parsed)); rw [← inferI_ers, he, ax_infer] at HC1; clear hp hb hr he))
    | (go_at_call 8; ((with_reducible refine (HC1.out).mono ?_); rintro e w2 ⟨hb, A2, n2, c2, rfl, hE⟩; have HB2 := Lib.hid (HB1.out.trans hb); have HE2 := hE; clear hb hE))
    | (go_at_call 7; ((with_reducible refine (HY.out _).mono ?_); rintro e w3 hp; obtain ⟨hb, A3, c3, m3, rfl, hr, he⟩ := hp.row; have HB3 := Lib.hid (HB2.out.trans hb); have HE3 := Lib.hid (HE2.out.later hb); have HC3 := Lib.hid (infer_c hr (tots_of he ay_parsed)); rw [← inferI_ers, he, ay_infer] at HC3; clear hp hb hr he))
    | (go_at_call 8; ((with_reducible refine (HC3.out).mono ?_); rintro e w4 ⟨hb, A4, n4, c4, rfl, hE⟩; have HB4 := Lib.hid (HB3.out.trans hb); have HQ4 := Lib.hid (equale_c ((HE3.out.later hb).later (Bel.alloc w4 (.cells #[.int .i64 2, .int .i64 0] 3))) (two_es w4) (by rw [HE3.out.1]; decide) (by decide)); rw [decide_eq_true rfl] at HQ4; have HBA := Lib.hid (HB4.out.trans (Bel.alloc w4 (.cells #[.int .i64 2, .int .i64 0] 3))); clear hb hE))
    | (go_at_call 11; ((with_reducible refine (HQ4.out).mono ?_); rintro e w5 ⟨rfl, hb⟩; have HB5 := Lib.hid (HBA.out.trans hb); clear hb)))
  go_ret
  exact ⟨rfl, HB5.out⟩
end Go.Proofs.Yteclclidibmajaa
