/-
  The tokens of a source: what the laws of layer 11 say, as plain data. No program is imported here.
-/
import Derived.Test.YtkiefgifbkpcfaaDoorLy
namespace Go.Proofs.YtkiefgifbkpcfaaDoor
set_option linter.unusedVariables false
set_option linter.unusedSimpArgs false

theorem dir_words {l : List UInt8} : ∀ w ∈ words l, Wd w := fun _ h => words_wd h
/-- One of the two holds, and only one, with one result. -/
theorem lx_total : ∀ (n : Nat) (l : List UInt8) (a : Nat), l.length ≤ n → (∃ ts, Lx l a ts) ∨ ∃ b c, Er l a b c := by
  intro n
  induction n with
  | zero =>
    intro l a h
    obtain rfl : l = [] := List.length_eq_zero_iff.1 (by omega)
    exact .inl ⟨[], Lx.nil a⟩
  | succ n ih =>
    intro l a h
    by_cases hl : l = []
    · subst hl; exact .inl ⟨[], Lx.nil a⟩
    · have hp : 0 < l.length := List.length_pos_iff.2 hl
      cases hf : find2 123 l with
      | none => exact .inl ⟨_, Lx.all l a hl hf⟩
      | some k =>
        cases k with
        | succ k =>
          rcases ih (l.drop (k + 1)) (a + (k + 1)) (by rw [List.length_drop]; omega) with ⟨ts, h1⟩ | ⟨b, c, h1⟩
          · exact .inl ⟨_, Lx.text l a k ts hf h1⟩
          · exact .inr ⟨b, c, Er.text l a k b c hf h1⟩
        | zero =>
          cases hc : find2 125 (l.drop 2) with
          | none => exact .inr ⟨_, _, Er.trunc l a hf hc⟩
          | some e =>
            cases hd : dirOf (words ((l.drop 2).take e)) with
            | error c => exact .inr ⟨_, _, Er.bad l a e c hf hc hd⟩
            | ok t =>
              rcases ih (l.drop (e + 4)) (a + (e + 4)) (by rw [List.length_drop]; omega) with ⟨ts, h1⟩ | ⟨b, c, h1⟩
              · exact .inl ⟨_, Lx.dir l a e t ts hf hc hd h1⟩
              · exact .inr ⟨b, c, Er.dir l a e t b c hf hc hd h1⟩
theorem lx_fun {l : List UInt8} {a : Nat} {ts : List Tok} (h : Lx l a ts) : ∀ {us : List Tok}, Lx l a us → ts = us := by
  induction h with
  | nil a =>
    intro us h2
    cases h2 with
    | nil => rfl
    | all _ _ h3 => exact absurd rfl h3
    | text _ _ k ts hf => simp [find2] at hf
    | dir _ _ e t ts hf => simp [find2] at hf
  | all l a hl hf =>
    intro us h2
    cases h2 with
    | nil => exact absurd rfl hl
    | all => rfl
    | text _ _ k ts hf2 => rw [hf] at hf2; cases hf2
    | dir _ _ e t ts hf2 => rw [hf] at hf2; cases hf2
  | text l a k ts hf _ ih =>
    intro us h2
    cases h2 with
    | nil => simp [find2] at hf
    | all _ _ _ hf2 => rw [hf] at hf2; cases hf2
    | text _ _ k2 ts2 hf2 h3 =>
      rw [hf] at hf2
      simp only [Option.some.injEq, Nat.add_right_cancel_iff] at hf2
      subst hf2
      rw [ih h3]
    | dir _ _ e t ts hf2 => rw [hf] at hf2; cases hf2
  | dir l a e t ts hf hc hd _ ih =>
    intro us h2
    cases h2 with
    | nil => simp [find2] at hf
    | all _ _ _ hf2 => rw [hf] at hf2; cases hf2
    | text _ _ k2 ts2 hf2 h3 => rw [hf] at hf2; cases hf2
    | dir _ _ e2 t2 ts2 hf2 hc2 hd2 h3 =>
      rw [hc] at hc2; injection hc2 with hc2; subst hc2
      rw [hd] at hd2; injection hd2 with hd2; subst hd2
      rw [ih h3]
theorem er_not {l : List UInt8} {a b c : Nat} (h : Er l a b c) : ∀ {us : List Tok}, ¬ Lx l a us := by
  induction h with
  | text l a k b c hf _ ih =>
    intro us h2
    cases h2 with
    | nil => simp [find2] at hf
    | all _ _ _ hf2 => rw [hf] at hf2; cases hf2
    | text _ _ k2 ts2 hf2 h3 =>
      rw [hf] at hf2
      simp only [Option.some.injEq, Nat.add_right_cancel_iff] at hf2
      subst hf2
      exact ih h3
    | dir _ _ e t ts hf2 => rw [hf] at hf2; cases hf2
  | dir l a e t b c hf hc hd _ ih =>
    intro us h2
    cases h2 with
    | nil => simp [find2] at hf
    | all _ _ _ hf2 => rw [hf] at hf2; cases hf2
    | text _ _ k2 ts2 hf2 h3 => rw [hf] at hf2; cases hf2
    | dir _ _ e2 t2 ts2 hf2 hc2 hd2 h3 =>
      rw [hc] at hc2; injection hc2 with hc2; subst hc2
      exact ih h3
  | trunc l a hf hc =>
    intro us h2
    cases h2 with
    | nil => simp [find2] at hf
    | all _ _ _ hf2 => rw [hf] at hf2; cases hf2
    | text _ _ k2 ts2 hf2 h3 => rw [hf] at hf2; cases hf2
    | dir _ _ e2 t2 ts2 hf2 hc2 => rw [hc] at hc2; cases hc2
  | bad l a e c hf hc hd =>
    intro us h2
    cases h2 with
    | nil => simp [find2] at hf
    | all _ _ _ hf2 => rw [hf] at hf2; cases hf2
    | text _ _ k2 ts2 hf2 h3 => rw [hf] at hf2; cases hf2
    | dir _ _ e2 t2 ts2 hf2 hc2 hd2 =>
      rw [hc] at hc2; injection hc2 with hc2; subst hc2
      rw [hd] at hd2; cases hd2
theorem er_fun {l : List UInt8} {a b c : Nat} (h : Er l a b c) : ∀ {b2 c2 : Nat}, Er l a b2 c2 → b = b2 ∧ c = c2 := by
  induction h with
  | text l a k b c hf _ ih =>
    intro b2 c2 h2
    cases h2 with
    | text _ _ k2 _ _ hf2 h3 =>
      rw [hf] at hf2
      simp only [Option.some.injEq, Nat.add_right_cancel_iff] at hf2
      subst hf2
      exact ih h3
    | dir _ _ e t _ _ hf2 => rw [hf] at hf2; cases hf2
    | trunc _ _ hf2 => rw [hf] at hf2; cases hf2
    | bad _ _ e _ hf2 => rw [hf] at hf2; cases hf2
  | dir l a e t b c hf hc hd _ ih =>
    intro b2 c2 h2
    cases h2 with
    | text _ _ k2 _ _ hf2 h3 => rw [hf] at hf2; cases hf2
    | dir _ _ e2 t2 _ _ hf2 hc2 hd2 h3 =>
      rw [hc] at hc2; injection hc2 with hc2; subst hc2
      exact ih h3
    | trunc _ _ hf2 hc2 => rw [hc] at hc2; cases hc2
    | bad _ _ e2 _ hf2 hc2 hd2 =>
      rw [hc] at hc2; injection hc2 with hc2; subst hc2
      rw [hd] at hd2; cases hd2
  | trunc l a hf hc =>
    intro b2 c2 h2
    cases h2 with
    | text _ _ k2 _ _ hf2 h3 => rw [hf] at hf2; cases hf2
    | dir _ _ e2 t2 _ _ hf2 hc2 hd2 h3 => rw [hc] at hc2; cases hc2
    | trunc _ _ hf2 hc2 => exact ⟨rfl, rfl⟩
    | bad _ _ e2 _ hf2 hc2 hd2 => rw [hc] at hc2; cases hc2
  | bad l a e c hf hc hd =>
    intro b2 c2 h2
    cases h2 with
    | text _ _ k2 _ _ hf2 h3 => rw [hf] at hf2; cases hf2
    | dir _ _ e2 t2 _ _ hf2 hc2 hd2 h3 =>
      rw [hc] at hc2; injection hc2 with hc2; subst hc2
      rw [hd] at hd2; cases hd2
    | trunc _ _ hf2 hc2 => rw [hc] at hc2; cases hc2
    | bad _ _ e2 _ hf2 hc2 hd2 =>
      rw [hc] at hc2; injection hc2 with hc2; subst hc2
      rw [hd] at hd2; injection hd2 with hd2
      exact ⟨rfl, hd2⟩

/-! ### Other offsets -/
def shift (d : Nat) (t : Tok) : Tok := { t with a := t.a + d }
theorem lx_shift {l : List UInt8} {a : Nat} {ts : List Tok} (h : Lx l a ts) (d : Nat) : Lx l (a + d) (ts.map (shift d)) := by
  induction h with
  | nil a => exact Lx.nil _
  | all l a hl hf => exact Lx.all l (a + d) hl hf
  | text l a k ts hf _ ih =>
    refine Lx.text l (a + d) k _ hf ?_
    rw [show a + d + (k + 1) = a + (k + 1) + d by omega]
    exact ih
  | dir l a e t ts hf hc hd _ ih =>
    refine Lx.dir l (a + d) e t _ hf hc hd ?_
    rw [show a + d + (e + 4) = a + (e + 4) + d by omega]
    exact ih
/-- What tokens are like. -/
def Good (t : Tok) : Prop := (t.k = 0 → t.p = [] ∧ t.h = false ∧ t.s ≠ []) ∧ (t.k ≠ 0 → t.k ≤ 8 ∧ (t.s ≠ [] ↔ t.k = 4 ∨ t.k = 6)) ∧ (t.h = false → t.p = [])
theorem dir_path {ws : List (List UInt8)} {t : Tok} (h : dirOf ws = .ok t) : t.h = false → t.p = [] := by
  unfold dirOf at h
  cases hf : formW ws with
  | none => rw [hf] at h; cases h
  | some r =>
    obtain ⟨k, n, p⟩ := r
    rw [hf] at h
    dsimp only at h
    split at h
    · injection h with h
      subst h
      intro h1
      cases p with
      | none => rfl
      | some q => cases h1
    · cases h
theorem lx_good {l : List UInt8} {a : Nat} {ts : List Tok} (h : Lx l a ts) : ∀ t ∈ ts, Good t ∧ t.s.length ≤ l.length ∧ t.p.length ≤ l.length ∧ t.a < a + l.length := by
  induction h with
  | nil a => simp
  | all l a hl hf =>
    intro t ht
    simp at ht; subst ht
    have : 0 < l.length := List.length_pos_iff.2 hl
    exact ⟨⟨fun _ => ⟨rfl, rfl, hl⟩, fun h => absurd rfl h, fun _ => rfl⟩, Nat.le_refl _, Nat.zero_le _, by simp [text]; omega⟩
  | text l a k ts hf _ ih =>
    have := find2_lt hf
    intro t ht
    rcases List.mem_cons.1 ht with rfl | ht
    · refine ⟨⟨fun _ => ⟨rfl, rfl, ?_⟩, fun h => absurd rfl h, fun _ => rfl⟩, by simp [text]; omega, by simp [text], by simp [text]; omega⟩
      intro h0
      have h9 := congrArg List.length h0
      simp only [text, List.length_take, List.length_nil] at h9
      omega
    · obtain ⟨h1, h2, h3, h4⟩ := ih t ht
      rw [List.length_drop] at h2 h3 h4
      exact ⟨h1, by omega, by omega, by omega⟩
  | dir l a e t ts hf hc hd _ ih =>
    have hl := find2_lt hf
    have he := find2_lt hc
    rw [List.length_drop] at he
    intro u hu
    rcases List.mem_cons.1 hu with rfl | hu
    · obtain ⟨h1, h2, h3, h4, _⟩ := dir_good hd dir_words
      refine ⟨⟨fun h => absurd h h1, fun _ => ⟨h2, h3⟩, fun h => dir_path (t := t) hd h⟩, ?_, ?_, by dsimp only; omega⟩
      · dsimp only
        by_cases h5 : t.s = []
        · rw [h5]; exact Nat.zero_le _
        · have hm : t.s ∈ words ((l.drop 2).take e) := by rw [← h4]; simp [fmtW, h5]
          have hw := words_len ((l.drop 2).take e)
          have : t.s.length ≤ (jn (words ((l.drop 2).take e))).length := by
            revert hm
            generalize words ((l.drop 2).take e) = ws
            intro hm
            clear hw h4 hd
            induction ws with
            | nil => cases hm
            | cons w ws ihw =>
              rw [jn_cons_len]
              rcases List.mem_cons.1 hm with h6 | h6
              · subst h6; omega
              · have := ihw h6
                rw [if_neg (by intro h7; subst h7; cases h6)]; omega
          rw [List.length_take, List.length_drop] at hw
          omega
      · dsimp only
        cases h5 : t.h with
        | false => rw [dir_path hd h5]; exact Nat.zero_le _
        | true =>
          have hm : 46 :: t.p ∈ words ((l.drop 2).take e) := by rw [← h4]; simp [fmtW, h5]
          have hw := words_len ((l.drop 2).take e)
          have : (46 :: t.p).length ≤ (jn (words ((l.drop 2).take e))).length := by
            revert hm
            generalize words ((l.drop 2).take e) = ws
            intro hm
            clear hw h4 hd
            induction ws with
            | nil => cases hm
            | cons w ws ihw =>
              rw [jn_cons_len]
              rcases List.mem_cons.1 hm with h6 | h6
              · subst h6; omega
              · have := ihw h6
                rw [if_neg (by intro h7; subst h7; cases h6)]; omega
          rw [List.length_take, List.length_drop] at hw
          rw [List.length_cons] at this
          omega
    · obtain ⟨h1, h2, h3, h4⟩ := ih u hu
      rw [List.length_drop] at h2 h3 h4
      exact ⟨h1, by omega, by omega, by omega⟩
theorem lx_count {l : List UInt8} {a : Nat} {ts : List Tok} (h : Lx l a ts) : ts.length ≤ l.length := by
  induction h with
  | nil a => simp
  | all l a hl hf => have : 0 < l.length := List.length_pos_iff.2 hl; simp; omega
  | text l a k ts hf _ ih => have := find2_lt hf; rw [List.length_drop] at ih; simp; omega
  | dir l a e t ts hf hc hd _ ih => have := find2_lt hf; rw [List.length_drop] at ih; simp; omega
theorem lx_empty {l : List UInt8} {a : Nat} {ts : List Tok} (h : Lx l a ts) : ts = [] ↔ l = [] := by
  cases h with
  | nil => simp
  | all _ _ h => simp [h]
  | text _ _ k ts hf => have := find2_lt hf; simp; rintro rfl; simp at this
  | dir _ _ e t ts hf => have := find2_lt hf; simp; rintro rfl; simp at this
/-- The canonical sources are not longer. -/
theorem fmts_cons (t : Tok) (ts : List Tok) : fmts (t :: ts) = fmt t ++ fmts ts := rfl
theorem fmts_nil : fmts [] = [] := rfl
theorem fmts_append (ts us : List Tok) : fmts (ts ++ us) = fmts ts ++ fmts us := by simp [fmts]
theorem fmt_dir {ws : List (List UInt8)} {t : Tok} (h : dirOf ws = .ok t) (hw : ∀ w ∈ ws, Wd w) (a : Nat) : fmt { t with a := a } = 123 :: 123 :: (jn ws ++ [125, 125]) := by
  obtain ⟨h1, _, _, h4, _⟩ := dir_good h hw
  have : fmtW { t with a := a } = fmtW t := rfl
  unfold fmt
  rw [if_neg h1, this, h4]
theorem lx_len {l : List UInt8} {a : Nat} {ts : List Tok} (h : Lx l a ts) : (fmts ts).length ≤ l.length := by
  induction h with
  | nil a => simp [fmts]
  | all l a hl hf => simp [fmts, fmt, text]
  | text l a k ts hf _ ih =>
    have := find2_lt hf
    rw [List.length_drop] at ih
    rw [fmts_cons, List.length_append]
    have : (fmt (text a (l.take (k + 1)))).length = k + 1 := by simp [fmt, text]; omega
    omega
  | dir l a e t ts hf hc hd _ ih =>
    have hl := find2_lt hf
    have he := find2_lt hc
    rw [List.length_drop] at ih he
    rw [fmts_cons, fmt_dir hd dir_words, List.length_append]
    have hw := words_len ((l.drop 2).take e)
    rw [List.length_take, List.length_drop] at hw
    simp only [List.length_cons, List.length_append, List.length_nil]
    omega
/-- With the braces of the first directive at its start. -/
theorem lx_head {l : List UInt8} {a : Nat} {ts : List Tok} (h : Lx l a ts) (h0 : find2 123 l = some 0) : ∃ r, fmts ts = 123 :: 123 :: r := by
  cases h with
  | nil => simp [find2] at h0
  | all _ _ _ hf => rw [h0] at hf; cases hf
  | text _ _ k ts hf => rw [h0] at hf; cases hf
  | dir _ _ e t ts hf hc hd =>
    rw [fmts_cons, fmt_dir hd dir_words]
    exact ⟨_, rfl⟩
theorem find2_start {c : UInt8} {l : List UInt8} : find2 c (c :: c :: l) = some 0 := by simp [find2]
theorem find2_drop {c : UInt8} {l : List UInt8} {i : Nat} (h : find2 c l = some i) : find2 c (l.drop i) = some 0 := by
  obtain ⟨h1, h2⟩ := find2_some.1 h
  refine find2_some.2 ⟨?_, fun j hj => absurd hj (Nat.not_lt_zero _)⟩
  unfold BB at h1 ⊢
  rw [List.getElem?_drop, List.getElem?_drop]
  simpa using h1
/-- The same tokens, with other offsets. -/
theorem round_trip {l : List UInt8} {a : Nat} {ts : List Tok} (h : Lx l a ts) : ∀ b, ∃ us, Lx (fmts ts) b us ∧ us.map (fun t => { t with a := 0 }) = ts.map (fun t => { t with a := 0 }) := by
  induction h with
  | nil a => exact fun b => ⟨[], Lx.nil b, rfl⟩
  | all l a hl hf =>
    intro b
    have : fmts [text a l] = l := by simp [fmts, fmt, text]
    rw [this]
    exact ⟨_, Lx.all l b hl hf, rfl⟩
  | text l a k ts hf hx ih =>
    intro b
    obtain ⟨us, h1, h2⟩ := ih (b + (k + 1))
    obtain ⟨r, hr⟩ := lx_head hx (find2_drop hf)
    obtain ⟨b1, b2⟩ := find2_some.1 hf
    have hk := find2_lt hf
    have e : fmts (text a (l.take (k + 1)) :: ts) = l.take (k + 1) ++ fmts ts := by simp [fmts_cons, fmt, text]
    have hlen : (l.take (k + 1)).length = k + 1 := by rw [List.length_take]; omega
    have hf2 : find2 123 (l.take (k + 1) ++ fmts ts) = some (k + 1) := by
      refine find2_some.2 ⟨?_, fun j hj hb => b2 j hj ?_⟩
      · unfold BB
        rw [List.getElem?_append_right (by omega), List.getElem?_append_right (by omega), hr, hlen]
        simp
      · unfold BB at hb ⊢
        obtain ⟨c1, c2⟩ := hb
        rw [List.getElem?_append_left (by omega), List.getElem?_take, if_pos hj] at c1
        refine ⟨c1, ?_⟩
        by_cases e : j = k
        · subst e; exact b1.1
        · rw [List.getElem?_append_left (by omega), List.getElem?_take, if_pos (by omega)] at c2
          exact c2
    refine ⟨text b (l.take (k + 1)) :: us, ?_, by rw [List.map_cons, List.map_cons, h2]; rfl⟩
    rw [e]
    have e1 : (l.take (k + 1) ++ fmts ts).take (k + 1) = l.take (k + 1) := by rw [List.take_append_of_le_length (by omega), List.take_take, Nat.min_self]
    have e2 : (l.take (k + 1) ++ fmts ts).drop (k + 1) = fmts ts := by rw [List.drop_append, hlen, Nat.sub_self, List.drop_of_length_le (by omega)]; rfl
    have := Lx.text (l.take (k + 1) ++ fmts ts) b k us hf2 (by rw [e2]; exact h1)
    rw [e1] at this
    exact this
  | dir l a e t ts hf hc hd hx ih =>
    intro b
    have hws : ∀ w ∈ words ((l.drop 2).take e), Wd w := dir_words
    generalize hws' : words ((l.drop 2).take e) = ws at hws hd
    obtain ⟨us, h1, h2⟩ := ih (b + ((jn ws).length + 4))
    have hb := dir_brace hd hws
    have hj : ∀ c ∈ jn ws, c ≠ 125 := fun c hc => by
      rcases jn_mem hc with h3 | ⟨w, h3, h4⟩
      · subst h3; decide
      · exact hb w h3 c h4
    have ef : fmts ({ t with a := a } :: ts) = 123 :: 123 :: (jn ws ++ 125 :: 125 :: fmts ts) := by rw [fmts_cons, fmt_dir hd hws]; simp
    have hc2 : find2 125 (jn ws ++ 125 :: 125 :: fmts ts) = some (jn ws).length := by
      refine find2_some.2 ⟨?_, fun j hjl hbb => ?_⟩
      · unfold BB
        rw [List.getElem?_append_right (Nat.le_refl _), List.getElem?_append_right (by omega)]
        simp
      · unfold BB at hbb
        obtain ⟨c1, _⟩ := hbb
        rw [List.getElem?_append_left hjl] at c1
        exact hj 125 (List.mem_of_getElem? c1) rfl
    refine ⟨{ t with a := b } :: us, ?_, by rw [List.map_cons, List.map_cons, h2]⟩
    rw [ef]
    have e1 : ((123 :: 123 :: (jn ws ++ 125 :: 125 :: fmts ts)).drop 2).take (jn ws).length = jn ws := by simp
    have e2 : (123 :: 123 :: (jn ws ++ 125 :: 125 :: fmts ts)).drop ((jn ws).length + 4) = fmts ts := by
      rw [show (jn ws).length + 4 = (jn ws).length + 2 + 1 + 1 by omega, List.drop_succ_cons, List.drop_succ_cons, List.drop_append, List.drop_of_length_le (by omega)]
      rw [show (jn ws).length + 2 - (jn ws).length = 2 by omega]
      rfl
    have := Lx.dir (123 :: 123 :: (jn ws ++ 125 :: 125 :: fmts ts)) b (jn ws).length t us find2_start (by simpa using hc2) (by rw [e1, words_jn hws]; exact hd) (by rw [e2]; exact h1)
    exact this
/-- No braces: one text. -/
theorem lx_text {l : List UInt8} (h : ∀ j, ¬ BB 123 l j) (a : Nat) : Lx l a (if l = [] then [] else [text a l]) := by
  split
  · rename_i h0; subst h0; exact Lx.nil a
  · rename_i h0; exact Lx.all l a h0 (find2_none.2 h)

/-! ### Offsets -/
/-- What the law asks of the tokens behind a token. -/
def OffOk (src : List UInt8) : Option Tok → List Tok → Prop
  | _, [] => True
  | prev, t :: ts => (match prev with | none => t.a = 0 | some q => q.a < t.a ∧ ¬ (t.k = 0 ∧ q.k = 0)) ∧ t.a < src.length ∧
    (t.k = 0 → t.s.length ≤ src.length - t.a ∧ (src.drop t.a).take t.s.length = t.s) ∧ (t.k ≠ 0 → src[t.a]? = some 123) ∧ OffOk src (some t) ts
theorem off_at {src : List UInt8} : ∀ {ts : List Tok} {prev : Option Tok}, OffOk src prev ts → ∀ {i : Nat} {t : Tok}, ts[i]? = some t →
    (i = 0 → prev = none → t.a = 0) ∧ (∀ q, (0 < i → ts[i - 1]? = some q) → 0 < i → q.a < t.a ∧ ¬ (t.k = 0 ∧ q.k = 0)) ∧ t.a < src.length ∧ (t.k = 0 → t.s.length ≤ src.length - t.a ∧ (src.drop t.a).take t.s.length = t.s) ∧ (t.k ≠ 0 → src[t.a]? = some 123)
  | [], prev, h, i, t, hi => by simp at hi
  | u :: ts, prev, h, 0, t, hi => by
    simp at hi; subst hi
    obtain ⟨h1, h2, h3, h4, _⟩ := h
    exact ⟨fun _ hp => by subst hp; exact h1, fun q _ hp => absurd hp (Nat.lt_irrefl _), h2, h3, h4⟩
  | u :: ts, prev, h, i + 1, t, hi => by
    obtain ⟨h1, h2, h3, h4, h5⟩ := h
    have hi' : ts[i]? = some t := by simpa using hi
    obtain ⟨g1, g2, g3, g4, g5⟩ := off_at h5 hi'
    refine ⟨fun h => absurd h (by omega), fun q hq _ => ?_, g3, g4, g5⟩
    have hq := hq (by omega)
    cases i with
    | zero =>
      simp at hq hi'
      subst hq
      cases ts with
      | nil => simp at hi'
      | cons v ts => simp at hi'; subst hi'; exact h5.1
    | succ i => exact g2 q (fun _ => by simpa using hq) (by omega)
theorem lx_off {src l : List UInt8} {a : Nat} {ts : List Tok} (h : Lx l a ts) : ∀ prev : Option Tok, l = src.drop a → a ≤ src.length → (match prev with | none => a = 0 | some q => q.a < a ∧ (q.k = 0 → l = [] ∨ find2 123 l = some 0)) → OffOk src prev ts := by
  induction h with
  | nil a => intros; trivial
  | all l a hl hf =>
    intro prev hs ha hp
    have hlen : l.length = src.length - a := by rw [hs, List.length_drop]
    have h0 : 0 < l.length := List.length_pos_iff.2 hl
    refine ⟨?_, by simp [text]; omega, fun _ => ⟨by simp [text]; omega, by simp [text]; rw [← hs, List.take_length]⟩, fun h => absurd rfl h, trivial⟩
    cases prev with
    | none => exact hp
    | some q =>
      refine ⟨hp.1, fun h => ?_⟩
      rcases hp.2 h.2 with h1 | h1
      · exact hl h1
      · rw [hf] at h1; cases h1
  | text l a k ts hf _ ih =>
    intro prev hs ha hp
    have hlen : l.length = src.length - a := by rw [hs, List.length_drop]
    have hk := find2_lt hf
    refine ⟨?_, by simp [text]; omega, fun _ => ⟨by simp [text]; omega, ?_⟩, fun h => absurd rfl h, ih _ (by rw [hs, List.drop_drop]) (by omega) ?_⟩
    · cases prev with
      | none => exact hp
      | some q =>
        refine ⟨hp.1, fun h => ?_⟩
        rcases hp.2 h.2 with h1 | h1
        · subst h1; simp at hk
        · rw [hf] at h1; cases h1
    · simp only [text]
      rw [← hs, List.length_take, Nat.min_eq_left (by omega)]
    · exact ⟨by simp [text], fun _ => .inr (find2_drop hf)⟩
  | dir l a e t ts hf hc hd _ ih =>
    intro prev hs ha hp
    have hlen : l.length = src.length - a := by rw [hs, List.length_drop]
    have hk := find2_lt hf
    have he := find2_lt hc
    rw [List.length_drop] at he
    obtain ⟨h1, _⟩ := dir_good hd dir_words
    refine ⟨?_, by dsimp only; omega, fun h => absurd h h1, fun _ => ?_, ih _ (by rw [hs, List.drop_drop]) (by omega) ⟨by dsimp only; omega, fun h => absurd h h1⟩⟩
    · cases prev with
      | none => exact hp
      | some q => exact ⟨hp.1, fun h => absurd h.1 h1⟩
    · have := (find2_some.1 hf).1.1
      rw [hs, List.getElem?_drop] at this
      simpa using this

/-! ### Two sources in sequence -/
def mergeT (l m : List Tok) : List Tok :=
  match l.getLast?, m with
  | some q, t :: m' => if q.k = 0 ∧ t.k = 0 then l.dropLast ++ { q with s := q.s ++ t.s } :: m' else l ++ m
  | _, _ => l ++ m
theorem merge_nil (m : List Tok) : mergeT [] m = m := by simp [mergeT]
theorem merge_none (l : List Tok) : mergeT l [] = l := by unfold mergeT; split <;> simp_all
theorem merge_cons {t : Tok} {ts m : List Tok} (h : t.k ≠ 0 ∨ ts ≠ []) : mergeT (t :: ts) m = t :: mergeT ts m := by
  cases ts with
  | nil =>
    have : t.k ≠ 0 := by rcases h with h | h; exact h; exact absurd rfl h
    rw [merge_nil]
    unfold mergeT
    cases m with
    | nil => rfl
    | cons u m => simp [this]
  | cons u ts =>
    unfold mergeT
    rw [List.getLast?_cons_cons]
    cases m with
    | nil => simp
    | cons v m =>
      cases hl : (u :: ts).getLast? with
      | none => simp at hl
      | some q =>
        dsimp only
        split
        · simp
        · rfl
theorem find2_append_some {c : UInt8} {x : List UInt8} {i : Nat} (h : find2 c x = some i) (y : List UInt8) : find2 c (x ++ y) = some i := by
  have hl := find2_lt h
  obtain ⟨h1, h2⟩ := find2_some.1 h
  refine find2_some.2 ⟨?_, fun j hj hb => h2 j hj ?_⟩
  · unfold BB at h1 ⊢
    rw [List.getElem?_append_left (by omega), List.getElem?_append_left (by omega)]
    exact h1
  · unfold BB at hb ⊢
    rw [List.getElem?_append_left (by omega), List.getElem?_append_left (by omega)] at hb
    exact hb
theorem find2_append {c : UInt8} {x : List UInt8} (h : find2 c x = none) (hl : x.getLast? ≠ some c) (y : List UInt8) : find2 c (x ++ y) = (find2 c y).map (x.length + ·) := by
  have hn := find2_none.1 h
  have hlast : ∀ j, j < x.length → ¬ BB c (x ++ y) j := by
    intro j hj hb
    unfold BB at hb
    rw [List.getElem?_append_left hj] at hb
    by_cases e : j + 1 < x.length
    · rw [List.getElem?_append_left e] at hb
      exact hn j hb
    · apply hl
      rw [List.getLast?_eq_getElem?, show x.length - 1 = j by omega]
      exact hb.1
  have hsh : ∀ j, BB c (x ++ y) (x.length + j) ↔ BB c y j := by
    intro j
    unfold BB
    rw [List.getElem?_append_right (by omega), List.getElem?_append_right (by omega), show x.length + j - x.length = j by omega, show x.length + j + 1 - x.length = j + 1 by omega]
  cases hy : find2 c y with
  | none =>
    rw [Option.map_none, find2_none]
    intro j hb
    by_cases hj : j < x.length
    · exact hlast j hj hb
    · rw [show j = x.length + (j - x.length) by omega, hsh] at hb
      exact find2_none.1 hy _ hb
  | some i =>
    obtain ⟨h1, h2⟩ := find2_some.1 hy
    rw [Option.map_some, find2_some]
    refine ⟨(hsh i).2 h1, fun j hj hb => ?_⟩
    by_cases hj2 : j < x.length
    · exact hlast j hj2 hb
    · rw [show j = x.length + (j - x.length) by omega, hsh] at hb
      exact h2 _ (by omega) hb
theorem last_drop {c : UInt8} {x : List UInt8} (h : x.getLast? ≠ some c) (n : Nat) : (x.drop n).getLast? ≠ some c := by
  rw [List.getLast?_drop]
  split
  · simp
  · exact h
theorem lx_append {x : List UInt8} {a : Nat} {l : List Tok} (h : Lx x a l) : x.getLast? ≠ some 123 → ∀ {y : List UInt8} {m : List Tok}, Lx y (a + x.length) m → Lx (x ++ y) a (mergeT l m) := by
  induction h with
  | nil a => intro _ y m hm; rw [merge_nil]; exact hm
  | all x a hx hf =>
    intro hl y m hm
    have hlen : 0 < x.length := List.length_pos_iff.2 hx
    have hf2 := find2_append hf hl y
    cases hm with
    | nil => rw [List.append_nil, merge_none]; exact Lx.all x a hx hf
    | all _ _ hy hfy =>
      rw [hfy] at hf2
      exact Lx.all (x ++ y) a (by simp [hx]) hf2
    | text _ _ k ts hfy hy =>
      rw [hfy] at hf2
      have e : x.length + (k + 1) = x.length + k + 1 := by omega
      have e1 : (x ++ y).take (x.length + k + 1) = x ++ y.take (k + 1) := by rw [List.take_append, List.take_of_length_le (by omega)]; congr 2; omega
      have e2 : (x ++ y).drop (x.length + k + 1) = y.drop (k + 1) := by rw [List.drop_append, List.drop_of_length_le (by omega)]; simp; congr 1; omega
      have := Lx.text (x ++ y) a (x.length + k) ts (by rw [hf2]; simp; omega) (by rw [e2, show a + (x.length + k + 1) = a + x.length + (k + 1) by omega]; exact hy)
      rw [e1] at this
      exact this
    | dir _ _ e t ts hfy hc hd hy =>
      rw [hfy] at hf2
      obtain ⟨h1, _⟩ := dir_good hd dir_words
      have hm2 : Lx y (a + x.length) ({ t with a := a + x.length } :: ts) := Lx.dir y _ e t ts hfy hc hd hy
      obtain ⟨n, hn⟩ : ∃ n, x.length = n + 1 := ⟨x.length - 1, by omega⟩
      have := Lx.text (x ++ y) a n ({ t with a := a + x.length } :: ts) (by rw [hf2]; simp; omega) (by rw [← hn, List.drop_append, List.drop_of_length_le (by omega)]; simpa using hm2)
      rw [← hn, List.take_append, List.take_of_length_le (Nat.le_refl _), Nat.sub_self, List.take_zero, List.append_nil] at this
      have e3 : mergeT [text a x] ({ t with a := a + x.length } :: ts) = [text a x] ++ { t with a := a + x.length } :: ts := by
        simp [mergeT, text, h1]
      rw [e3]
      exact this
  | text x a k ts hf hx ih =>
    intro hl y m hm
    have hk := find2_lt hf
    have hne : ts ≠ [] := by
      intro h0
      have := (lx_empty hx).1 h0
      have := congrArg List.length this
      simp at this; omega
    rw [merge_cons (.inr hne)]
    have e1 : (x ++ y).take (k + 1) = x.take (k + 1) := List.take_append_of_le_length (by omega)
    have e2 : (x ++ y).drop (k + 1) = x.drop (k + 1) ++ y := List.drop_append_of_le_length (by omega)
    have := Lx.text (x ++ y) a k (mergeT ts m) (find2_append_some hf y) (by
      rw [e2]
      refine ih (last_drop hl _) ?_
      rw [List.length_drop, show a + (k + 1) + (x.length - (k + 1)) = a + x.length by omega]
      exact hm)
    rw [e1] at this
    exact this
  | dir x a e t ts hf hc hd hx ih =>
    intro hl y m hm
    have hk := find2_lt hf
    have he := find2_lt hc
    rw [List.length_drop] at he
    obtain ⟨h1, _⟩ := dir_good hd dir_words
    rw [merge_cons (t := { t with a := a }) (.inl h1)]
    have e0 : (x ++ y).drop 2 = x.drop 2 ++ y := List.drop_append_of_le_length (by omega)
    have e1 : ((x ++ y).drop 2).take e = (x.drop 2).take e := by rw [e0]; exact List.take_append_of_le_length (by rw [List.length_drop]; omega)
    have e2 : (x ++ y).drop (e + 4) = x.drop (e + 4) ++ y := List.drop_append_of_le_length (by omega)
    refine Lx.dir (x ++ y) a e t (mergeT ts m) (find2_append_some hf y) (by rw [e0]; exact find2_append_some hc y) (by rw [e1]; exact hd) ?_
    rw [e2]
    refine ih (last_drop hl _) ?_
    rw [List.length_drop, show a + (e + 4) + (x.length - (e + 4)) = a + x.length by omega]
    exact hm
end Go.Proofs.YtkiefgifbkpcfaaDoor
