/-
  The law InferTextOnly, walked.
-/
import Derived.Test.YteclclidibmajaaIm16
namespace Go.Proofs.Yteclclidibmajaa
open Go.RowKit Go.BigFrame NT
set_option linter.unusedVariables false
set_option linter.unusedSimpArgs false
set_option maxRecDepth 100000

/-- What parsed gives, and where it came from. -/
theorem parsed_src (s : ByteArray) : ∃ l, Parsed l ∧ (l = [] ∨ s.size ≤ 5000 ∧ ∃ ts c, Lx (toL s) 0 ts ∧ P ts 0 false 0 0 = .ok (l, [], c)) ∧ ∀ w, Calls Try.prog 7 #[.string s] w (PdP l w) := by
  by_cases hs : s.size ≤ 5000
  · obtain ⟨r, hlo, _, hok, _⟩ := lexOf_total s
    cases hp : parR r with
    | error ak =>
      obtain ⟨a, k⟩ := ak
      have hk : k ≠ 0 := by
        unfold parR at hp
        cases r with
        | error bc =>
          dsimp only at hp
          injection hp with hp
          subst hp
          exact lexE_code hlo
        | ok ts =>
          dsimp only at hp
          cases hq : P ts 0 false 0 0 with
          | error e => rw [hq] at hp; injection hp with hp; subst hp; exact P_code hq
          | ok x => rw [hq] at hp; cases hp
      exact ⟨[], parsed_nil, .inl rfl, fun w => parsed_err s hs r hlo a k hk hp w⟩
    | ok l =>
      have hpp := hp
      unfold parR at hp
      cases r with
      | error bc => cases hp
      | ok ts =>
        dsimp only at hp
        cases hq : P ts 0 false 0 0 with
        | error e => rw [hq] at hp; cases hp
        | ok x =>
          obtain ⟨l', r', c'⟩ := x
          rw [hq] at hp
          injection hp with hp
          subst hp
          obtain rfl := P_top_rest hq
          have hlo' := hlo
          unfold LexOf at hlo
          rw [if_neg (by omega)] at hlo
          exact ⟨l', ⟨toL s, ts, c', by rw [toL_len]; exact hs, hlo, hq⟩, .inr ⟨hs, ts, c', hlo, hq⟩, fun w => parsed_ok s hs _ hlo' l' hpp w⟩
  · exact ⟨[], parsed_nil, .inl rfl, fun w => parsed_big s (by omega) w⟩
theorem text_at {l : List UInt8} {t : Tok} (h : Lx l 0 [t]) (hk : t.k = 0) : t.a = 0 := by
  cases h with
  | all _ _ h1 h2 => rfl
  | text _ _ k ts h1 h2 => rfl
  | dir _ _ e t' ts h1 h2 h3 h4 => rfl
theorem P_one_at {ts : List Tok} {c : Nat} {x : NT} (h : P ts 0 false 0 0 = .ok ([x], [], c)) (t : Tok) (ht : ts = [t]) : x.a = t.a := by
  subst ht
  obtain ⟨e, b, b2, l', e1, _⟩ := P_head h
  simp only [List.cons.injEq] at e1
  obtain ⟨rfl, rfl⟩ := e1
  rfl
theorem len_ers {m l : List NT} (h : ers m = l) : m.length = l.length := by rw [← h, ers_len]
theorem one_ers {m : List NT} {y : NT} (h : ers m = [y]) : ∃ x, m = [x] ∧ x.er = y := by
  cases m with
  | nil => simp [ers] at h
  | cons x r =>
    cases r with
    | nil =>
      rw [ers_map, List.map_cons, List.map_nil] at h
      injection h with h
      exact ⟨x, rfl, h⟩
    | cons z r => rw [ers_map, List.map_cons, List.map_cons] at h; simp at h
set_option maxHeartbeats 6400000 in
theorem toLaw (s : ByteArray) (w : World) (hs : s.size ≤ maxLen) :
    Calls Try.prog 6 #[.string s] w fun e w' => e = .returned (.bool true) ∧ Below w.heap.size w w' := by
  obtain ⟨l1, hl1, hsrc, hP1⟩ := parsed_src s
  have HPA := Lib.hid (fun W => hP1 W)
  have HLA := Lib.hid hl1
  have HAL := Lib.hid (fun W => alive_c W)
  have hgp := st_guard
  clear hP1 hs
  by_cases h1 : l1.length = 1
  · obtain ⟨y, rfl⟩ : ∃ y, l1 = [y] := by
      cases l1 with
      | nil => cases h1
      | cons y r => cases r with
        | nil => exact ⟨y, rfl⟩
        | cons z r => simp at h1
    by_cases hk : y.k = 0
    · obtain ⟨hs5, ts, c, hlx, hp⟩ : s.size ≤ 5000 ∧ ∃ ts c, Lx (toL s) 0 ts ∧ P ts 0 false 0 0 = .ok ([y], [], c) := by
        rcases hsrc with h | h
        · cases h
        · exact h
      obtain ⟨t, rfl, hys, htk⟩ := P_one hp hk
      have hya : y.a = 0 := by rw [P_one_at hp t rfl, text_at hlx htk]; rfl
      have hyS : y.s = s := by rw [hys, text_all hlx htk, ofL_toL]
      obtain ⟨T, hT⟩ : ∃ T, T = runS (s0 0) (toL s) := ⟨_, rfl⟩
      have hLI : ∀ x : NT, x.er = y → listI (s0 0) [x] = .ok T [] := fun x hx => by
        have e1 : x.k = 0 := by rw [← er_k, hx, hk]
        have e2 : x.s = s := by rw [← er_s, hx, hyS]
        rw [listI_cons, nodeI_text e1 rfl, IR.next_ok, listI_nil, e2, hT]
        rfl
      have hRU : ∀ W, Calls Try.prog 13 #[.agg #[.int .i64 0, .string ⟨#[]⟩, .string ⟨#[]⟩, .string ⟨#[]⟩], .string s] W (SvV (.agg #[.int .i64 (T.c : Nat), .string (ofL T.n), .string (ofL T.a), .string (ofL T.p)]) W) := fun W => by
        rw [hT]
        exact prun_c (s0 0) Inv.init s (by omega) W
      have HRU := Lib.hid hRU
      have HK := Lib.hid hk
      have HYA := Lib.hid hya
      have HLI := Lib.hid hLI
      have hcmp : ∀ W, (binOp .neq 34 (.agg #[.int .i64 (T.c : Nat), .string (ofL T.n), .string (ofL T.a), .string (ofL T.p)]) (.agg #[.int .i64 (T.c : Nat), .string (ofL T.n), .string (ofL T.a), .string (ofL T.p)])).run Try.prog W = .ok (.bool false) W := fun W => by have h := pst_neq T T W; rw [eqH_self] at h; exact h
      clear hl1 hsrc h1 hk hs5 hlx hp hys hya hyS hT hLI hRU htk
      obtain ⟨b, hb⟩ : ∃ b, b = eqH T (s0 0) := ⟨_, rfl⟩
      have hzero : ∀ W, (binOp .eql 34 (.agg #[.int .i64 (T.c : Nat), .string (ofL T.n), .string (ofL T.a), .string (ofL T.p)]) (.agg #[.int .i64 0, .string ⟨#[]⟩, .string ⟨#[]⟩, .string ⟨#[]⟩])).run Try.prog W = .ok (.bool b) W := fun W => by have h := pst_eql T (s0 0) W; rw [← hb] at h; exact h
      obtain ⟨f, hf⟩ : ∃ f : Nat, f = if b = true then 0 else 16 := ⟨_, rfl⟩
      have HII : Hid (∀ x : NT, x.er = y → inferI [x] = ([], 0, f)) := Lib.hid fun x hx => by
        unfold inferI
        rw [HLI.out x hx, hf, hb]
        dsimp only
        have e3 : x.a = 0 := by rw [← er_a, hx, HYA.out]
        cases eqH T (s0 0) with
        | true => rfl
        | false =>
          show (([] : List Nat), x.a, 16) = _
          rw [e3]
          rfl
      clear hb
      have arm : ∀ b : Bool, b = b := fun _ => rfl
      clear arm
      cases b
      all_goals
        simp only [Bool.false_eq_true, if_false, if_true] at hf
        subst hf
        go_enter Try.func6, Try.ntmps6
        go_wp2_with (first
          | (go_at_call 7; ((with_reducible refine (HPA.out _).mono ?_); rintro e w1 hp; obtain ⟨hb, A1, c1, m1, rfl, hr, he⟩ := hp.row; obtain ⟨x, rfl, hxy⟩ := one_ers he; obtain ⟨g, o, rfl, hg, ha⟩ := hr.cells (i := 0) rfl; have q0 : w1.cell? ⟨g, o, none⟩ = some (.int .i64 0) := (by have h := (ha w1 (Bel.refl _)).1; rw [← er_k, hxy, HK.out] at h; simpa using h); have HB1 := Lib.hid hb; have HX1 := Lib.hid hr; have HT1 := Lib.hid (tots_of he HLA.out); have HAF := Lib.hid (show Calls Try.prog 12 #[.agg #[.int .i64 0, .string ⟨#[]⟩, .string ⟨#[]⟩, .string ⟨#[]⟩], .slice (some ⟨g, o, none⟩) 1 c1] w1 (AfP (.ok T []) w1) by rw [← HLI.out x hxy]; exact after_c (s0 0) Inv.init hr HT1.out); have HEQ := Lib.hid hxy; clear hp he hr hb ha hg hxy))
          | (go_at_call 12; ((with_reducible refine (HAF.out).mono ?_); rintro e w2 ⟨hb, t2, a2, k2, rfl, hq⟩; obtain ⟨rfl, rfl, rfl⟩ := hq.out; have hb2 := hb.trans (Bel.alloc w2 (.cells #[.int .i64 (t2.c : Nat), .string (ofL t2.n), .string (ofL t2.a), .string (ofL t2.p)] 34)); have HB2 := Lib.hid (HB1.out.trans hb2); have HS2 := Lib.hid (Blk.new w2 34 (sC t2)); have hif := infer_c (HX1.out.bel hb2) HT1.out; rw [HII.out x HEQ.out, show [x].length = 1 from rfl] at hif; have HIF := Lib.hid hif; clear hif; clear hb hb2 hq))
          | (go_at_call 8; ((with_reducible refine (HIF.out).mono ?_); rintro e w3 ⟨hb, A3, n3, c3, rfl, hE⟩; have hn3 : n3 = 0 := hE.out.1; subst hn3; have HB3 := Lib.hid (HB2.out.trans hb); have HS3 := Lib.hid (HS2.out.belh hb); clear hb hE))
          | (go_at_call 13; ((with_reducible refine (HRU.out _).mono ?_); rintro e w4 ⟨rfl, hb⟩; have hb4 := hb.trans (Bel.alloc w4 (.cells #[.int .i64 (t2.c : Nat), .string (ofL t2.n), .string (ofL t2.a), .string (ofL t2.p)] 34)); have HB4 := Lib.hid (HB3.out.trans hb4); have HS4 := Lib.hid (HS3.out.belh hb4); have HR4 := Lib.hid (Blk.new w4 34 (sC t2)); clear hb hb4; obtain ⟨k0, k1, k2, k3⟩ := cells4 HS4.out))
          | (go_at_call 10; ((with_reducible refine (HAL.out _).mono ?_); rintro e w5 ⟨rfl, hb⟩; have HB5 := Lib.hid (HB4.out.trans hb); have HR5 := Lib.hid (HR4.out.belh hb); clear hb; obtain ⟨r0, r1, r2, r3⟩ := cells4 HR5.out)))
        go_ret
        exact ⟨rfl, HB5.out⟩
    · have HK := Lib.hid hk
      clear hl1 hsrc h1 hk
      go_enter Try.func6, Try.ntmps6
      go_wp2_with (first
        | (go_at_call 7; ((with_reducible refine (HPA.out _).mono ?_); rintro e w1 hp; obtain ⟨hb, A1, c1, m1, rfl, hr, he⟩ := hp.row; obtain ⟨x, rfl, hxy⟩ := one_ers he; obtain ⟨g, o, rfl, hg, ha⟩ := hr.cells (i := 0) rfl; have q0 : w1.cell? ⟨g, o, none⟩ = some (.int .i64 x.k) := (by have h := (ha w1 (Bel.refl _)).1; simpa using h); have hxk : x.k ≠ 0 := (by rw [← er_k, hxy]; exact HK.out); have hxb : (x.k != 0) = true := bne_iff_ne.2 hxk; have HB1 := Lib.hid hb; clear hp he hr hb ha hg hxy))
        | (go_at_call 10; ((with_reducible refine (HAL.out _).mono ?_); rintro e w5 ⟨rfl, hb⟩; have HB5 := Lib.hid (HB1.out.trans hb); clear hb)))
      go_ret
      exact ⟨rfl, HB5.out⟩
  · have H1 := Lib.hid h1
    clear hl1 hsrc h1
    go_enter Try.func6, Try.ntmps6
    go_wp2_with (first
      | (go_at_call 7; ((with_reducible refine (HPA.out _).mono ?_); rintro e w1 hp; obtain ⟨hb, A1, c1, m1, rfl, hr, he⟩ := hp.row; have hn1 : (m1.length : Int) ≠ 1 := (by have h1 := len_ers he; have h2 := H1.out; omega); have hnb : ((m1.length : Int) != 1) = true := bne_iff_ne.2 hn1; have HB1 := Lib.hid hb; clear hp he hr hb))
      | (go_at_call 10; ((with_reducible refine (HAL.out _).mono ?_); rintro e w5 ⟨rfl, hb⟩; have HB5 := Lib.hid (HB1.out.trans hb); clear hb)))
    go_ret
    exact ⟨rfl, HB5.out⟩
end Go.Proofs.Yteclclidibmajaa
