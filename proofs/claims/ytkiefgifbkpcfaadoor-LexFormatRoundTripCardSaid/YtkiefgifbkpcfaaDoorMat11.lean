/-
  The law LexMatchesReference, walked.
-/
import Derived.Test.YtkiefgifbkpcfaaDoorSa11
import Derived.Test.YtkiefgifbkpcfaaDoorRegion2
namespace Go.Proofs.YtkiefgifbkpcfaaDoor
open Go.RowKit Go.BigFrame
set_option linter.unusedVariables false
set_option linter.unusedSimpArgs false

theorem bel_only {w w' : World} (h : Bel w w') : Only [] w w' := Only.of_below (S := []) h fun _ hk _ => hk
theorem Bel.drew (w : World) : Bel w w.drew := (Below.refl _ _).drew
theorem Bel.of_later {W : World} (X : Later [] W) : Bel W X.w := bel_of_only X.h
/-- The parts of a result. -/
def toksR : LexR → List Tok | .ok ts => ts | .error _ => []
def numR (s : ByteArray) : LexR → Nat | .ok _ => s.size | .error (b, _) => b
def errR : LexR → Nat | .ok _ => 0 | .error (_, c) => c
/-- What Lex gives, as one shape. -/
theorem lex_any {T : TypeId} {s : ByteArray} {r : LexR} {w : World} {e : Ending} {w' : World} (h : LexPost T s r w e w') :
    Bel w w' ∧ ∃ A c, e = .returned (.tuple #[.slice A (toksR r).length c, .int .i64 (numR s r), .int .i64 (errR r)]) ∧ KRow w' T 5 Tok.cs A c (toksR r) := by
  match r, h with
  | .ok ts, h => obtain ⟨hb, A, c, he, hr, _⟩ := lex_ok h; exact ⟨hb, A, c, he, hr⟩
  | .error (b, c), h => obtain ⟨hb, he⟩ := lex_err h; exact ⟨hb, none, 0, he, KRow.nil _ _ _ _⟩
theorem rs_toks {l : List UInt8} {a : Nat} {r : LexR} (h : Rs l a r) : (toksR r).length ≤ l.length ∧ ∀ t ∈ toksR r, Good t ∧ t.k ≤ 8 ∧ t.s.length ≤ l.length ∧ t.p.length ≤ l.length := by
  match r, h with
  | .ok ts, h =>
    refine ⟨lx_count h, fun t ht => ?_⟩
    obtain ⟨h1, h2, h3, _⟩ := lx_good h t ht
    refine ⟨h1, ?_, h2, h3⟩
    by_cases h0 : t.k = 0
    · omega
    · exact (h1.2.1 h0).1
  | .error (b, c), h => exact ⟨Nat.zero_le _, fun t ht => by cases ht⟩
theorem sameN_c {w : World} {A B : Option Addr} {c d n : Nat} {ts : List Tok} (hA : KRow w 32 5 Tok.cs A c ts) (hB : KRow w 35 5 Tok.cs B d ts) (hn : ts.length = n) (hl : n ≤ 100000) :
    Calls Tryd.prog 11 #[.slice A n c, .slice B n d] w fun e w' => e = .returned (.bool true) ∧ Bel w w' := by
  subst hn
  exact same_c hA hB hl
set_option maxRecDepth 100000 in
set_option maxHeartbeats 3200000 in
theorem matLaw (s : ByteArray) (w : World) (hT : MX w) (hs : s.size ≤ maxLen) :
    Calls Tryd.prog 3 #[.string s] w fun e w' => e = .returned (.bool true) ∧ Below w.heap.size w w' := by
  have HT := Lib.hid hT
  have HA := Lib.hid (fun (W : World) (h : MX W) => alive_c W h)
  by_cases hbig : 5000 < s.size
  · have hi : (5000 : Int) < (s.size : Int) := by omega
    clear hT hs
    go_enter Tryd.func3, Tryd.ntmps3
    go_wp2_with (go_at_call 8; refine (HA.out _ HT.out).mono ?_; rintro e w1 ⟨rfl, hb⟩)
    go_ret
    exact ⟨rfl, hb⟩
  have hi : ¬ (5000 : Int) < (s.size : Int) := by omega
  obtain ⟨r, hr⟩ := rs_total (toL s) 0
  have hlo : LexOf s r := by unfold LexOf; rw [if_neg (by omega)]; exact hr
  have HL := Lib.hid (fun (W : World) (h : MX W) => lex_c s r W h hlo)
  have HR := Lib.hid (fun (W : World) => refLex_c s r W hlo)
  obtain ⟨hcnt, hgood⟩ := rs_toks hr
  rw [toL_len] at hcnt
  obtain ⟨ts, hts⟩ : ∃ ts, ts = toksR r := ⟨_, rfl⟩
  obtain ⟨n, hn⟩ : ∃ n, n = ts.length := ⟨_, rfl⟩
  have hn5 : n ≤ 5000 := by rw [hn, hts]; omega
  have HG : Hid (∀ t ∈ ts, Good t ∧ t.k ≤ 8 ∧ t.s.length ≤ 70000 ∧ t.p.length ≤ 70000) := Lib.hid (fun t ht => by
    obtain ⟨h1, h2, h3, h4⟩ := hgood t (by rw [← hts]; exact ht)
    rw [toL_len] at h3 h4
    exact ⟨h1, h2, by omega, by omega⟩)
  have HN := Lib.hid hn
  have HTS := Lib.hid hts
  clear hT hs hbig hr hlo hcnt hgood hn hts
  generalize hnum : (numR s r : Nat) = num at *
  generalize herr : errR r = er at *
  have HNE := Lib.hid (And.intro hnum herr)
  clear hnum herr
  go_enter Tryd.func3, Tryd.ntmps3
  go_wp2_with (first | (go_at_call 9; ((with_reducible refine (HL.out _ HT.out).mono ?_); rintro e w1 hp; obtain ⟨hb, A, c, rfl, hr⟩ := lex_any hp; rw [HNE.out.1, HNE.out.2, ← HTS.out, ← HN.out]; rw [← HTS.out] at hr; have HB1 := Lib.hid hb; have HR1 := Lib.hid hr; clear hp hb hr)) | (go_at_call 10; ((with_reducible refine (HR.out _).mono ?_); rintro e w2 hp; obtain ⟨hb, B, d, rfl, hr⟩ := lex_any hp; rw [HNE.out.1, HNE.out.2, ← HTS.out, ← HN.out]; rw [← HTS.out] at hr; have HB2 := Lib.hid (HB1.out.trans hb); have HR2 := Lib.hid hr; have HR12 := Lib.hid (HR1.out.only (bel_only hb) (by simp)); clear hp hb hr)) | (go_at_call 11; (refine (sameN_c HR12.out HR2.out HN.out.symm (by omega)).mono ?_); rintro e w3 ⟨rfl, hb⟩; have HB3 := Lib.hid (HB2.out.trans hb); have HR13 := Lib.hid (HR12.out.only (bel_only hb) (by simp)); have HR23 := Lib.hid (HR2.out.only (bel_only hb) (by simp)); clear hb))
  go_loopw [43] (fun s43 wr => ∃ k : Nat, k ≤ n ∧ s43 = .int .i64 k ∧ Hid (Bel w3 wr)) (fun s43 _ => n - (intOf s43).toNat)
  case atStart => exact ⟨0, Nat.zero_le _, rfl, Lib.hid (Bel.refl _)⟩
  case round =>
    obtain ⟨k, hk, rfl, HBR⟩ := hrel
    by_cases hlt : k < n
    · have hkl : k < ts.length := by have := HN.out; omega
      have hkt := List.getElem?_eq_getElem hkl
      obtain ⟨hg1, hg2, hg3, hg4⟩ := HG.out _ (List.getElem_mem hkl)
      generalize ts[k] = t at *
      obtain ⟨g, o, hAA, ha⟩ := tok_at HR13.out hkt
      obtain ⟨g', o', hBB, hb⟩ := tok_at HR23.out hkt
      subst hAA hBB
      obtain ⟨a0, a1, a2, a3, a4⟩ := ha wr HBR.out
      have HOB := Lib.hid hb
      have HF1 := Lib.hid (fun W => format_c t hg2 hg3 hg4 W)
      have HF2 := Lib.hid (fun W => refFormat_c t hg1 hg3 hg4 W)
      clear ha hb hkt hg1 hg2 hg3 hg4
      go_wp2_with fail
      refine region_begin (T := []) (by kernel_rfl) ?_
      have hT0 := (Blk.new wr 32 [.int .i64 t.k, .int .i64 t.a, .string (ofL t.s), .string (ofL t.p), .bool t.h]).drew
      have hBW : Bel w3 ((wr.alloc (.cells #[.int .i64 t.k, .int .i64 t.a, .string (ofL t.s), .string (ofL t.p), .bool t.h] 32)).drew) := HBR.out.trans ((Bel.alloc _ _).trans (Bel.drew _))
      generalize (wr.alloc (.cells #[.int .i64 t.k, .int .i64 t.a, .string (ofL t.s), .string (ofL t.p), .bool t.h] 32)).drew = W at hT0 hBW ⊢
      have f0 : ∀ X : Later [] W, X.w.cell? ⟨wr.heap.size, 0, none⟩ = some (.int .i64 t.k) := fun X => (Bel.cell (Bel.of_later X) hT0.lt).trans (hT0.cell 0)
      have f1 : ∀ X : Later [] W, X.w.cell? ⟨wr.heap.size, 1, none⟩ = some (.int .i64 t.a) := fun X => (Bel.cell (Bel.of_later X) hT0.lt).trans (hT0.cell 1)
      have f2 : ∀ X : Later [] W, X.w.cell? ⟨wr.heap.size, 2, none⟩ = some (.string (ofL t.s)) := fun X => (Bel.cell (Bel.of_later X) hT0.lt).trans (hT0.cell 2)
      have f3 : ∀ X : Later [] W, X.w.cell? ⟨wr.heap.size, 3, none⟩ = some (.string (ofL t.p)) := fun X => (Bel.cell (Bel.of_later X) hT0.lt).trans (hT0.cell 3)
      have f4 : ∀ X : Later [] W, X.w.cell? ⟨wr.heap.size, 4, none⟩ = some (.bool t.h) := fun X => (Bel.cell (Bel.of_later X) hT0.lt).trans (hT0.cell 4)
      have e0 : ∀ X : Later [] W, X.w.cell? ⟨g', o' + k * 5, none⟩ = some (.int .i64 t.k) := fun X => (HOB.out X.w (hBW.trans (Bel.of_later X))).1
      have e1 : ∀ X : Later [] W, X.w.cell? ⟨g', o' + k * 5 + 1, none⟩ = some (.int .i64 t.a) := fun X => (HOB.out X.w (hBW.trans (Bel.of_later X))).2.1
      have e2 : ∀ X : Later [] W, X.w.cell? ⟨g', o' + k * 5 + 2, none⟩ = some (.string (ofL t.s)) := fun X => (HOB.out X.w (hBW.trans (Bel.of_later X))).2.2.1
      have e3 : ∀ X : Later [] W, X.w.cell? ⟨g', o' + k * 5 + 3, none⟩ = some (.string (ofL t.p)) := fun X => (HOB.out X.w (hBW.trans (Bel.of_later X))).2.2.2.1
      have e4 : ∀ X : Later [] W, X.w.cell? ⟨g', o' + k * 5 + 4, none⟩ = some (.bool t.h) := fun X => (HOB.out X.w (hBW.trans (Bel.of_later X))).2.2.2.2
      have HBW := Lib.hid hBW
      clear hBW hT0 a0 a1 a2 a3 a4
      refine region_seg [true, false, true, true, true, true] 3 (by kernel_rfl) (by kernel_rfl) (by kernel_rfl) rfl (fun _ _ d _ _ h => by cases d <;> exact h) ?_
      repeat (first | with_reducible refine wpMask_pass ?_ | (refine wpMask_want (by rfl) (fun K hK => ?_); go_big_quiet_op; refine hK _ ?_; clear hK K))
      with_reducible refine wpMask_nil ?_
      clear f0 f1 f2 f3 f4 e0 e1 e2 e3 e4
      refine region_call 1 (by kernel_rfl) rfl (by rfl) (by go_simp; exact ⟨rfl, rfl⟩) ?_
      refine (HF1.out W).mono ?_
      rintro e w4 ⟨rfl, hb⟩
      refine ⟨_, rfl, bel_only hb, ?_⟩
      have HB4 := Lib.hid (HBW.out.trans hb)
      clear hb
      simp only [List.getElem_toArray, List.getElem_cons_zero, List.getElem_cons_succ, Act.put, List.setIfInBounds_toArray, List.set_cons_zero, List.set_cons_succ]
      refine region_call 6 (by kernel_rfl) rfl (by rfl) (by go_simp; exact ⟨rfl, rfl⟩) ?_
      refine (HF2.out w4).mono ?_
      rintro e w5 ⟨rfl, hb⟩
      refine ⟨_, rfl, bel_only hb, ?_⟩
      have HB5 := Lib.hid (HB4.out.trans hb)
      clear hb
      simp only [List.getElem_toArray, List.getElem_cons_zero, List.getElem_cons_succ, Act.put, List.setIfInBounds_toArray, List.set_cons_zero, List.set_cons_succ]
      refine region_seg [false, false, false, false, false, false, false, true] 0 (by kernel_rfl) (by kernel_rfl) (by kernel_rfl) rfl (fun _ _ d _ _ h => by cases d <;> exact h) ?_
      repeat (first | with_reducible refine wpMask_pass ?_ | (refine wpMask_want (by rfl) (fun K hK => ?_); go_big_quiet_op; refine hK _ ?_; clear hK K))
      with_reducible refine wpMask_nil ?_
      refine region_end (by kernel_rfl) ?_
      go_wp2_with fail
      go_roundw
      case rel => exact ⟨k + 1, by omega, by go_num, HB5⟩
      case measure => simp [intOf]; omega
    · obtain rfl : k = n := by omega
      have HMX := Lib.hid (HT.out.bel (HB3.out.trans HBR.out))
      go_wp2_with (go_at_call 8; refine (HA.out _ HMX.out).mono ?_; rintro e w6 ⟨rfl, hb⟩; have HB6 := Lib.hid (HB3.out.trans (HBR.out.trans hb)); clear hb)
      go_ret
      exact ⟨rfl, HB6.out⟩
end Go.Proofs.YtkiefgifbkpcfaaDoor
