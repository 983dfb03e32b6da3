/-
  The canonical source of nodes, as plain data: it is that of the tokens that they came from; parsed again it gives the same nodes with other offsets. No program is imported here.
-/
import Derived.Test.YteclclidibmajaaNpure
namespace Go.Proofs.Yteclclidibmajaa
open NT
set_option linter.unusedVariables false
set_option linter.unusedSimpArgs false

/-! ### Offsets don't matter -/
def z0 (t : Tok) : Tok := { t with a := 0 }
abbrev Sm (ts us : List Tok) : Prop := ts.map z0 = us.map z0
theorem z0_eq {t u : Tok} (h : z0 t = z0 u) : t.k = u.k ∧ t.s = u.s ∧ t.p = u.p ∧ t.h = u.h := by
  unfold z0 at h
  simp only [Tok.mk.injEq] at h
  exact ⟨h.1, h.2.2.1, h.2.2.2.1, h.2.2.2.2⟩
theorem Sm.cons {t : Tok} {ts us : List Tok} (h : Sm (t :: ts) us) : ∃ u us', us = u :: us' ∧ z0 t = z0 u ∧ Sm ts us' := by
  cases us with
  | nil => simp [Sm] at h
  | cons u us =>
    unfold Sm at h
    rw [List.map_cons, List.map_cons] at h
    injection h with h1 h2
    exact ⟨u, us, rfl, h1, h2⟩
theorem Sm.nil {us : List Tok} (h : Sm [] us) : us = [] := by
  cases us with
  | nil => rfl
  | cons u us => simp [Sm] at h
theorem Sm.len {ts us : List Tok} (h : Sm ts us) : ts.length = us.length := by
  have := congrArg List.length h
  simpa using this
theorem nd_sm {t u : Tok} (h : z0 t = z0 u) (e : Bool) {b b' l l' : List NT} (hb : strips b' = strips b) (hl : strips l' = strips l) : (nd u e b' l').strip = (nd t e b l).strip := by
  obtain ⟨h1, h2, h3, h4⟩ := z0_eq h
  rw [strip_mk, strip_mk]
  show NT.mk u.k 0 (ofL u.s) (ofL u.p) u.h e none 0 (strips b') none 0 (strips l') = NT.mk t.k 0 (ofL t.s) (ofL t.p) t.h e none 0 (strips b) none 0 (strips l)
  rw [h1, h2, h3, h4, hb, hl]
theorem cons_mk {x : NT} {l : List NT} {y : List Tok × Nat} {r : PR} (h : r = .ok (l, y)) : r.cons x = .ok (x :: l, y) := by subst h; rfl
theorem pl_sm : ∀ (f : Nat) (ts us : List Tok) (op : Nat) (ie : Bool) (d c : Nat) (l : List NT) (r : List Tok) (c' : Nat), Sm ts us → pl f ts op ie d c = .ok (l, r, c') → ∃ l' r', pl f us op ie d c = .ok (l', r', c') ∧ strips l' = strips l ∧ Sm r r'
  | 0, _, _, _, _, _, _, _, _, _, _, h => by cases h
  | f + 1, [], us, op, ie, d, c, l, r, c', hs, h => by
    obtain rfl := hs.nil
    simp [pl] at h
    obtain ⟨rfl, rfl, rfl⟩ := h
    exact ⟨[], [], rfl, rfl, rfl⟩
  | f + 1, t :: ts, us, op, ie, d, c, l, r, c', hs, h => by
    obtain ⟨u, us, rfl, hz, hs⟩ := hs.cons
    obtain ⟨e1, e2, e3, e4⟩ := z0_eq hz
    have hall : Sm (t :: ts) (u :: us) := by unfold Sm; rw [List.map_cons, List.map_cons, hz, hs]
    unfold pl at h ⊢
    rw [← e1]
    by_cases h7 : t.k = 7
    · rw [if_pos h7] at h ⊢
      split at h
      · rename_i ho
        rw [if_pos ho]
        simp at h
        obtain ⟨rfl, rfl, rfl⟩ := h
        exact ⟨[], _, rfl, rfl, hall⟩
      · cases h
    rw [if_neg h7] at h ⊢
    by_cases h8 : t.k = 8
    · rw [if_pos h8] at h ⊢
      split at h
      · cases h
      · rename_i ho
        rw [if_neg ho]
        simp at h
        obtain ⟨rfl, rfl, rfl⟩ := h
        exact ⟨[], _, rfl, rfl, hall⟩
    rw [if_neg h8] at h ⊢
    by_cases hn : t.k = 6 ∧ 0 < d ∨ blk t.k = true ∧ 32 ≤ d
    · rw [if_pos hn] at h; cases h
    rw [if_neg hn] at h ⊢
    by_cases hc : 4096 ≤ c
    · rw [if_pos hc] at h; cases h
    rw [if_neg hc] at h ⊢
    cases hb : blk t.k with
    | false =>
      rw [hb, if_pos rfl] at h
      rw [if_pos rfl]
      obtain ⟨l1, rfl, h1⟩ := cons_ok h
      obtain ⟨l', r', h2, h3, h4⟩ := pl_sm f ts us _ _ _ _ _ _ _ hs h1
      exact ⟨_, r', cons_mk h2, by rw [strips_cons, strips_cons, h3, nd_sm hz false rfl rfl], h4⟩
    | true =>
      rw [hb, if_neg (by decide)] at h
      rw [if_neg (by decide)]
      cases hp : pl f ts t.k false (d + 1) (c + 1) with
      | error e => rw [hp] at h; cases h
      | ok x =>
        obtain ⟨b, r1, c1⟩ := x
        rw [hp] at h
        obtain ⟨b', r1', hp', hb', hr1⟩ := pl_sm f ts us _ _ _ _ _ _ _ hs hp
        rw [hp']
        dsimp only at h ⊢
        cases r1 with
        | nil => cases h
        | cons v r2 =>
          obtain ⟨v', r2', rfl, hv, hr2⟩ := hr1.cons
          obtain ⟨v1, _⟩ := z0_eq hv
          dsimp only at h ⊢
          rw [← v1]
          by_cases hk : v.k = 7
          · rw [if_pos hk] at h ⊢
            cases hp2 : pl f r2 t.k true (d + 1) c1 with
            | error e => rw [hp2] at h; cases h
            | ok x =>
              obtain ⟨b2, r3, c2⟩ := x
              rw [hp2] at h
              obtain ⟨b2', r3', hp2', hb2', hr3⟩ := pl_sm f r2 r2' _ _ _ _ _ _ _ hr2 hp2
              rw [hp2']
              dsimp only at h ⊢
              cases r3 with
              | nil => cases h
              | cons y r4 =>
                obtain ⟨y', r4', rfl, _, hr4⟩ := hr3.cons
                dsimp only at h ⊢
                obtain ⟨l1, rfl, h1⟩ := cons_ok h
                obtain ⟨l', r', h2, h3, h4⟩ := pl_sm f r4 r4' _ _ _ _ _ _ _ hr4 h1
                exact ⟨_, r', cons_mk h2, by rw [strips_cons, strips_cons, h3, nd_sm hz true hb' hb2'], h4⟩
          · rw [if_neg hk] at h ⊢
            obtain ⟨l1, rfl, h1⟩ := cons_ok h
            obtain ⟨l', r', h2, h3, h4⟩ := pl_sm f r2 r2' _ _ _ _ _ _ _ hr2 h1
            exact ⟨_, r', cons_mk h2, by rw [strips_cons, strips_cons, h3, nd_sm hz false hb' rfl], h4⟩
theorem P_sm {ts us : List Tok} {op : Nat} {ie : Bool} {d c : Nat} {l : List NT} {r : List Tok} {c' : Nat} (hs : Sm ts us) (h : P ts op ie d c = .ok (l, r, c')) : ∃ l' r', P us op ie d c = .ok (l', r', c') ∧ strips l' = strips l ∧ Sm r r' := by
  unfold P at h ⊢
  rw [← hs.len]
  exact pl_sm _ _ _ _ _ _ _ _ _ _ hs h

/-! ### The canonical source -/
def elT : Tok := ⟨7, 0, [], [], false⟩
def edT : Tok := ⟨8, 0, [], [], false⟩
namespace NT
mutual
def fmtN : NT → List UInt8 | mk k _ s p h e _ _ b _ _ l => fmt ⟨k.toNat, 0, toL s, toL p, h⟩ ++ (if blkI k then fmtNs b ++ ((if e then fmt elT ++ fmtNs l else []) ++ fmt edT) else [])
def fmtNs : List NT → List UInt8 | [] => [] | x :: r => fmtN x ++ fmtNs r
end
theorem fmtN_eq (t : NT) : fmtN t = fmt ⟨t.k.toNat, 0, toL t.s, toL t.p, t.h⟩ ++ (if blkI t.k then fmtNs t.b ++ ((if t.e then fmt elT ++ fmtNs t.l else []) ++ fmt edT) else []) := by cases t; rw [fmtN]; rfl
theorem fmtNs_nil : fmtNs [] = [] := by simp [fmtNs]
theorem fmtNs_cons (x : NT) (r : List NT) : fmtNs (x :: r) = fmtN x ++ fmtNs r := by simp [fmtNs]
theorem fmtNs_append : ∀ l m : List NT, fmtNs (l ++ m) = fmtNs l ++ fmtNs m
  | [], m => by simp [fmtNs_nil]
  | x :: l, m => by rw [List.cons_append, fmtNs_cons, fmtNs_cons, fmtNs_append l m, List.append_assoc]
theorem fmtNs_strip_of : ∀ l : List NT, (∀ x, x ∈ l → fmtN x.strip = fmtN x) → fmtNs (strips l) = fmtNs l
  | [], _ => by simp [strips]
  | x :: l, h => by rw [strips_cons, fmtNs_cons, fmtNs_cons, h x (by simp), fmtNs_strip_of l fun y hy => h y (by simp [hy])]
theorem fmtN_strip (t : NT) : fmtN t.strip = fmtN t := by
  refine ind (M := fun t => fmtN t.strip = fmtN t) (fun t h1 h2 => ?_) t
  rw [fmtN_eq t, strip_mk, fmtN_eq]
  show fmt ⟨t.k.toNat, 0, toL t.s, toL t.p, t.h⟩ ++ (if blkI t.k then fmtNs (strips t.b) ++ ((if t.e then fmt elT ++ fmtNs (strips t.l) else []) ++ fmt edT) else []) = _
  rw [fmtNs_strip_of _ h1, fmtNs_strip_of _ h2]
theorem fmtNs_strips (l : List NT) : fmtNs (strips l) = fmtNs l := fmtNs_strip_of l fun x _ => fmtN_strip x
theorem fmtNs_of_strips {l m : List NT} (h : strips l = strips m) : fmtNs l = fmtNs m := by rw [← fmtNs_strips l, h, fmtNs_strips]
end NT
theorem fmt_zero (t : Tok) : fmt t = fmt ⟨t.k, 0, t.s, t.p, t.h⟩ := rfl
theorem fmtN_nd (t : Tok) (e : Bool) (b l : List NT) : fmtN (nd t e b l) = fmt t ++ (if blk t.k then fmtNs b ++ ((if e then fmt elT ++ fmtNs l else []) ++ fmt edT) else []) := by
  rw [fmtN_eq, nd_k, blkI_nat]
  show fmt ⟨(t.k : Int).toNat, 0, toL (ofL t.s), toL (ofL t.p), t.h⟩ ++ _ = _
  rw [Int.toNat_natCast, toL_ofL, toL_ofL]
  rfl
/-- An Else, an End: with nothing else to it. -/
def Plain (t : Tok) : Prop := t.k = 7 ∨ t.k = 8 → t.s = [] ∧ t.p = [] ∧ t.h = false
theorem Plain.el {t : Tok} (h : Plain t) (hk : t.k = 7) : fmt t = fmt elT := by
  obtain ⟨h1, h2, h3⟩ := h (.inl hk)
  rw [fmt_zero, hk, h1, h2, h3]; rfl
theorem Plain.ed {t : Tok} (h : Plain t) (hk : t.k = 8) : fmt t = fmt edT := by
  obtain ⟨h1, h2, h3⟩ := h (.inr hk)
  rw [fmt_zero, hk, h1, h2, h3]; rfl
theorem dir_plain {ws : List (List UInt8)} {t : Tok} (h : dirOf ws = .ok t) : Plain t := by
  unfold dirOf at h
  cases hf : formW ws with
  | none => rw [hf] at h; cases h
  | some r =>
    obtain ⟨k, n, p⟩ := r
    rw [hf] at h
    dsimp only at h
    split at h
    · injection h with h
      subst h
      intro hk
      dsimp only at hk ⊢
      unfold formW at hf
      split at hf
      · cases hf
      · split at hf
        · simp at hf; omega
        · split at hf
          · simp at hf; obtain ⟨_, rfl, rfl⟩ := hf; exact ⟨rfl, rfl, rfl⟩
          · cases hf
      · split at hf
        · rename_i hh; simp at hf; omega
        · split at hf
          · rename_i hh; simp at hf; omega
          · cases hf
      · split at hf
        · simp at hf; omega
        · cases hf
      · cases hf
    · cases h
theorem lx_plain {l : List UInt8} {a : Nat} {ts : List Tok} (h : Lx l a ts) : ∀ t ∈ ts, Plain t := by
  induction h with
  | nil a => simp
  | all l a hl hf =>
    intro t ht
    simp at ht; subst ht
    intro hk; simp [text] at hk
  | text l a k ts hf _ ih =>
    intro t ht
    rcases List.mem_cons.1 ht with rfl | ht
    · intro hk; simp [text] at hk
    · exact ih t ht
  | dir l a e t ts hf hc hd _ ih =>
    intro u hu
    rcases List.mem_cons.1 hu with rfl | hu
    · exact dir_plain (t := t) hd
    · exact ih u hu
theorem pl_fmt : ∀ (f : Nat) (ts : List Tok) (op : Nat) (ie : Bool) (d c : Nat) (l : List NT) (r : List Tok) (c' : Nat), (∀ t ∈ ts, Plain t) → pl f ts op ie d c = .ok (l, r, c') → fmts ts = fmtNs l ++ fmts r ∧ ∀ t ∈ r, Plain t
  | 0, _, _, _, _, _, _, _, _, _, h => by cases h
  | f + 1, [], op, ie, d, c, l, r, c', hg, h => by
    simp [pl] at h
    obtain ⟨rfl, rfl, rfl⟩ := h
    exact ⟨by rw [fmtNs_nil]; rfl, hg⟩
  | f + 1, t :: ts, op, ie, d, c, l, r, c', hg, h => by
    have hgt : ∀ u ∈ ts, Plain u := fun u hu => hg u (by simp [hu])
    unfold pl at h
    split at h
    · split at h
      · simp at h; obtain ⟨rfl, rfl, rfl⟩ := h; exact ⟨by rw [fmtNs_nil]; rfl, hg⟩
      · cases h
    split at h
    · split at h
      · cases h
      · simp at h; obtain ⟨rfl, rfl, rfl⟩ := h; exact ⟨by rw [fmtNs_nil]; rfl, hg⟩
    split at h
    · cases h
    split at h
    · cases h
    split at h
    · rename_i hb
      obtain ⟨l1, rfl, h1⟩ := cons_ok h
      obtain ⟨e1, e2⟩ := pl_fmt f ts _ _ _ _ _ _ _ hgt h1
      refine ⟨?_, e2⟩
      rw [fmts_cons, e1, fmtNs_cons, fmtN_nd, hb, if_neg (by decide), List.append_nil, List.append_assoc]
    rename_i hb
    have hb : blk t.k = true := by simpa using hb
    split at h
    · cases h
    rename_i b r1 c1 hp
    obtain ⟨e1, e2⟩ := pl_fmt f ts _ _ _ _ _ _ _ hgt hp
    split at h
    · cases h
    rename_i u r2
    have hgu := e2 u (by simp)
    have hg2 : ∀ v ∈ r2, Plain v := fun v hv => e2 v (by simp [hv])
    split at h
    · rename_i hu
      split at h
      · cases h
      rename_i b2 r3 c2 hp2
      obtain ⟨e3, e4⟩ := pl_fmt f r2 _ _ _ _ _ _ _ hg2 hp2
      split at h
      · cases h
      rename_i v r4
      have hv8 : v.k = 8 := by
        rcases pl_stop _ _ _ _ _ _ _ _ _ _ hp2 with ⟨_, _, hh⟩ | hh
        · cases hh
        · exact hh.1
      obtain ⟨l1, rfl, h1⟩ := cons_ok h
      obtain ⟨e5, e6⟩ := pl_fmt f r4 _ _ _ _ _ _ _ (fun y hy => e4 y (by simp [hy])) h1
      refine ⟨?_, e6⟩
      rw [fmts_cons, e1, fmts_cons, e3, fmts_cons, e5, fmtNs_cons, fmtN_nd, hb, if_pos rfl, if_pos rfl, hgu.el hu, (e4 v (by simp)).ed hv8]
      simp only [List.append_assoc]
    · rename_i hu
      have hu8 : u.k = 8 := by
        rcases pl_stop _ _ _ _ _ _ _ _ _ _ hp with hh | hh
        · exact absurd hh.1 hu
        · exact hh.1
      obtain ⟨l1, rfl, h1⟩ := cons_ok h
      obtain ⟨e5, e6⟩ := pl_fmt f r2 _ _ _ _ _ _ _ hg2 h1
      refine ⟨?_, e6⟩
      rw [fmts_cons, e1, fmts_cons, e5, fmtNs_cons, fmtN_nd, hb, if_pos rfl, if_neg (by decide), hgu.ed hu8]
      simp only [List.append_assoc, List.nil_append]

/-! ### Templates of sources -/
/-- The nodes of a source of at most 5000 bytes. -/
def Parsed (l : List NT) : Prop := ∃ (x : List UInt8) (ts : List Tok) (c : Nat), x.length ≤ 5000 ∧ Lx x 0 ts ∧ P ts 0 false 0 0 = .ok (l, [], c)
theorem parsed_nil : Parsed [] := ⟨[], [], 0, by simp, Lx.nil 0, rfl⟩
theorem Parsed.fmt {l : List NT} (h : Parsed l) : ∃ ts, fmtNs l = fmts ts ∧ (fmts ts).length ≤ 5000 ∧ (∃ x, Lx x 0 ts) ∧ ∃ c, P ts 0 false 0 0 = .ok (l, [], c) := by
  obtain ⟨x, ts, c, hx, hl, hp⟩ := h
  have e := (pl_fmt _ ts _ _ _ _ _ _ _ (lx_plain hl) hp).1
  rw [fmts_nil, List.append_nil] at e
  exact ⟨ts, e.symm, Nat.le_trans (lx_len hl) hx, ⟨x, hl⟩, c, hp⟩
/-- The canonical source, parsed again. -/
theorem Parsed.again {l : List NT} (h : Parsed l) : (fmtNs l).length ≤ 5000 ∧ ∃ us l' c, Lx (fmtNs l) 0 us ∧ P us 0 false 0 0 = .ok (l', [], c) ∧ strips l' = strips l := by
  obtain ⟨ts, e, hlen, ⟨x, hl⟩, c, hp⟩ := h.fmt
  rw [e]
  obtain ⟨us, h1, h2⟩ := round_trip hl 0
  obtain ⟨l', r', h3, h4, h5⟩ := P_sm (show Sm ts us from h2.symm) hp
  obtain rfl := Sm.nil h5
  exact ⟨hlen, us, l', c, h1, h3, h4⟩
/-- The canonical sources are the same just where the nodes are, but for offsets. -/
theorem Parsed.inj {l m : List NT} (hl : Parsed l) (hm : Parsed m) : fmtNs l = fmtNs m ↔ strips l = strips m := by
  constructor
  · intro h
    obtain ⟨_, us, l', c, h1, h2, h3⟩ := hl.again
    obtain ⟨_, vs, m', c', h4, h5, h6⟩ := hm.again
    rw [h] at h1
    obtain rfl := lx_fun h1 h4
    rw [h2] at h5
    injection h5 with h5
    injection h5 with h5 _
    subst h5
    rw [← h3, h6]
  · exact fmtNs_of_strips
/-! ### What the nodes of a source are like -/
/-- The node of a token that a source can have, and so all that is in it. -/
inductive Ng : NT → Prop
  | mk (t : NT) (u : Tok) (hk : t.k = u.k) (hs : t.s = ofL u.s) (hp : t.p = ofL u.p) (hh : t.h = u.h) (hg : Good u) (hs7 : u.s.length ≤ 70000) (hp7 : u.p.length ≤ 70000) (hb : ∀ x, x ∈ t.b → Ng x) (hl : ∀ x, x ∈ t.l → Ng x) : Ng t
theorem Ng.body {t : NT} (h : Ng t) : ∀ x, x ∈ t.b → Ng x := by cases h; assumption
theorem Ng.els {t : NT} (h : Ng t) : ∀ x, x ∈ t.l → Ng x := by cases h; assumption
theorem Ng.tok {t : NT} (h : Ng t) : ∃ u : Tok, t.k = u.k ∧ t.s = ofL u.s ∧ t.p = ofL u.p ∧ t.h = u.h ∧ Good u ∧ u.s.length ≤ 70000 ∧ u.p.length ≤ 70000 ∧ u.a = 0 := by
  cases h with
  | mk t u hk hs hp hh hg hs7 hp7 _ _ => exact ⟨{ u with a := 0 }, hk, hs, hp, hh, hg, hs7, hp7, rfl⟩
theorem ng_er (t : NT) : Ng t.er → Ng t := by
  refine ind (M := fun t => Ng t.er → Ng t) (fun t h1 h2 h => ?_) t
  obtain ⟨u, e1, e2, e3, e4, e5, e6, e7, _⟩ := h.tok
  have hb := h.body
  have hl := h.els
  rw [er_b, ers_map] at hb
  rw [er_l, ers_map] at hl
  rw [er_k] at e1
  rw [er_s] at e2
  rw [er_p] at e3
  rw [er_h] at e4
  exact .mk t u e1 e2 e3 e4 e5 e6 e7 (fun x hx => h1 x hx (hb _ (List.mem_map_of_mem hx))) (fun x hx => h2 x hx (hl _ (List.mem_map_of_mem hx)))
theorem ng_ers {l m : List NT} (h : ∀ x, x ∈ l → Ng x) (he : ers m = l) : ∀ x, x ∈ m → Ng x := by
  intro x hx
  refine ng_er x (h _ ?_)
  rw [← he, ers_map]
  exact List.mem_map_of_mem hx
theorem nd_ng {t : Tok} {e : Bool} {b l : List NT} (h : Good t ∧ t.s.length ≤ 70000 ∧ t.p.length ≤ 70000) (hb : ∀ x, x ∈ b → Ng x) (hl : ∀ x, x ∈ l → Ng x) : Ng (nd t e b l) := .mk _ t rfl rfl rfl rfl h.1 h.2.1 h.2.2 hb hl
theorem pl_ng : ∀ (f : Nat) (ts : List Tok) (op : Nat) (ie : Bool) (d c : Nat) (l : List NT) (r : List Tok) (c' : Nat), (∀ t ∈ ts, Good t ∧ t.s.length ≤ 70000 ∧ t.p.length ≤ 70000) → pl f ts op ie d c = .ok (l, r, c') → (∀ x, x ∈ l → Ng x) ∧ ∀ t ∈ r, Good t ∧ t.s.length ≤ 70000 ∧ t.p.length ≤ 70000
  | 0, _, _, _, _, _, _, _, _, _, h => by cases h
  | f + 1, [], op, ie, d, c, l, r, c', hg, h => by
    simp [pl] at h
    obtain ⟨rfl, rfl, rfl⟩ := h
    exact ⟨by simp, hg⟩
  | f + 1, t :: ts, op, ie, d, c, l, r, c', hg, h => by
    have hgt : ∀ u ∈ ts, Good u ∧ u.s.length ≤ 70000 ∧ u.p.length ≤ 70000 := fun u hu => hg u (by simp [hu])
    have hg0 := hg t (by simp)
    unfold pl at h
    split at h
    · split at h
      · simp at h; obtain ⟨rfl, rfl, rfl⟩ := h; exact ⟨by simp, hg⟩
      · cases h
    split at h
    · split at h
      · cases h
      · simp at h; obtain ⟨rfl, rfl, rfl⟩ := h; exact ⟨by simp, hg⟩
    split at h
    · cases h
    split at h
    · cases h
    split at h
    · obtain ⟨l1, rfl, h1⟩ := cons_ok h
      obtain ⟨e1, e2⟩ := pl_ng f ts _ _ _ _ _ _ _ hgt h1
      refine ⟨fun x hx => ?_, e2⟩
      rcases List.mem_cons.1 hx with rfl | hx
      · exact nd_ng hg0 (by simp) (by simp)
      · exact e1 x hx
    split at h
    · cases h
    rename_i b r1 c1 hp
    obtain ⟨e1, e2⟩ := pl_ng f ts _ _ _ _ _ _ _ hgt hp
    split at h
    · cases h
    rename_i u r2
    split at h
    · split at h
      · cases h
      rename_i b2 r3 c2 hp2
      obtain ⟨e3, e4⟩ := pl_ng f r2 _ _ _ _ _ _ _ (fun v hv => e2 v (by simp [hv])) hp2
      split at h
      · cases h
      rename_i v r4
      obtain ⟨l1, rfl, h1⟩ := cons_ok h
      obtain ⟨e5, e6⟩ := pl_ng f r4 _ _ _ _ _ _ _ (fun y hy => e4 y (by simp [hy])) h1
      refine ⟨fun x hx => ?_, e6⟩
      rcases List.mem_cons.1 hx with rfl | hx
      · exact nd_ng hg0 e1 e3
      · exact e5 x hx
    · obtain ⟨l1, rfl, h1⟩ := cons_ok h
      obtain ⟨e5, e6⟩ := pl_ng f r2 _ _ _ _ _ _ _ (fun v hv => e2 v (by simp [hv])) h1
      refine ⟨fun x hx => ?_, e6⟩
      rcases List.mem_cons.1 hx with rfl | hx
      · exact nd_ng hg0 e1 (by simp)
      · exact e5 x hx
theorem Parsed.ng {l : List NT} (h : Parsed l) : ∀ x, x ∈ l → Ng x := by
  obtain ⟨x, ts, c, hx, hl, hp⟩ := h
  exact (pl_ng _ ts _ _ _ _ _ _ _ (fun t ht => by obtain ⟨h1, h2, h3, _⟩ := lx_good hl t ht; exact ⟨h1, by omega, by omega⟩) hp).1
/-- The node's canonical source, by its token. -/
theorem fmtN_tok {t : NT} {u : Tok} (hk : t.k = u.k) (hs : t.s = ofL u.s) (hp : t.p = ofL u.p) (hh : t.h = u.h) : fmtN t = fmt u ++ (if blk u.k then fmtNs t.b ++ ((if t.e then fmt elT ++ fmtNs t.l else []) ++ fmt edT) else []) := by
  rw [fmtN_eq, hk, hs, hp, hh, blkI_nat, Int.toNat_natCast, toL_ofL, toL_ofL]
  rfl
theorem fmtNs_len_le {l : List NT} {x : NT} (h : x ∈ l) : (fmtN x).length ≤ (fmtNs l).length := by
  induction l with
  | nil => cases h
  | cons y l ih =>
    rw [fmtNs_cons, List.length_append]
    rcases List.mem_cons.1 h with rfl | h
    · omega
    · have := ih h; omega
theorem fmtN_b_le (t : NT) (h : blkI t.k = true) : (fmtNs t.b).length ≤ (fmtN t).length ∧ (t.e = true → (fmtNs t.l).length ≤ (fmtN t).length) := by
  rw [fmtN_eq, if_pos h]
  refine ⟨by simp only [List.length_append]; omega, fun he => ?_⟩
  rw [he, if_pos rfl]
  simp only [List.length_append]
  omega
theorem fmtN_er (t : NT) : fmtN t.er = fmtN t := by rw [← fmtN_strip t.er, strip_er, fmtN_strip]
theorem fmtNs_ers (l : List NT) : fmtNs (ers l) = fmtNs l := by
  refine fmtNs_of_strips ?_
  rw [strips_map, strips_map, ers_map, List.map_map]
  exact List.map_congr_left fun x _ => strip_er x
theorem strips_ers (l : List NT) : strips (ers l) = strips l := by
  rw [strips_map, strips_map, ers_map, List.map_map]
  exact List.map_congr_left fun x _ => strip_er x
theorem strip_strip (t : NT) : t.strip.strip = t.strip := by
  refine ind (M := fun t => t.strip.strip = t.strip) (fun t h1 h2 => ?_) t
  rw [strip_mk t, strip_mk]
  show NT.mk t.k 0 t.s t.p t.h t.e none 0 (strips (strips t.b)) none 0 (strips (strips t.l)) = _
  rw [strips_map (strips t.b), strips_map t.b, List.map_map, strips_map (strips t.l), strips_map t.l, List.map_map]
  congr 1
  · exact List.map_congr_left fun x hx => h1 x hx
  · exact List.map_congr_left fun x hx => h2 x hx
theorem strips_strips (l : List NT) : strips (strips l) = strips l := by
  rw [strips_map (strips l), strips_map l, List.map_map]
  exact List.map_congr_left fun x _ => strip_strip x
/-- All offsets are zero. -/
theorem pre_strip (t : NT) : ∀ a ∈ pre t.strip, a = 0 := by
  refine ind (M := fun t => ∀ a ∈ pre t.strip, a = 0) (fun t h1 h2 => ?_) t
  have key : ∀ l : List NT, (∀ x, x ∈ l → ∀ a ∈ pre x.strip, a = 0) → ∀ a ∈ pres (strips l), a = 0 := by
    intro l
    induction l with
    | nil => intro _ a ha; simp [strips, pres] at ha
    | cons x l ih =>
      intro h a ha
      rw [strips_cons, pres_cons] at ha
      rcases List.mem_append.1 ha with ha | ha
      · exact h x (by simp) a ha
      · exact ih (fun y hy => h y (by simp [hy])) a ha
  rw [strip_mk, pre_eq]
  intro a ha
  rcases List.mem_cons.1 ha with rfl | ha
  · rfl
  · rcases List.mem_append.1 ha with ha | ha
    · exact key t.b h1 a ha
    · exact key t.l h2 a ha
theorem pres_strips (l : List NT) : ∀ a ∈ pres (strips l), a = 0 := by
  intro a ha
  induction l with
  | nil => simp [strips, pres] at ha
  | cons x l ih =>
    rw [strips_cons, pres_cons] at ha
    rcases List.mem_append.1 ha with ha | ha
    · exact pre_strip x a ha
    · exact ih ha
theorem tot_pre (t : NT) : (pre t).length = t.tot := by
  have key : ∀ l : List NT, (∀ x, x ∈ l → (pre x).length = x.tot) → (pres l).length = tots l := by
    intro l
    induction l with
    | nil => intro _; simp [pres, tots]
    | cons x l ih => intro h; rw [pres_cons, tots_cons, List.length_append, h x (by simp), ih fun y hy => h y (by simp [hy])]
  refine ind (M := fun t => (pre t).length = t.tot) (fun t h1 h2 => ?_) t
  rw [pre_eq, tot_eq, List.length_cons, List.length_append, key t.b h1, key t.l h2]
  omega
theorem tots_pres (l : List NT) : (pres l).length = tots l := by
  induction l with
  | nil => simp [pres, tots]
  | cons x l ih => rw [pres_cons, tots_cons, List.length_append, tot_pre, ih]
theorem Parsed.tots {l : List NT} (h : Parsed l) : NT.tots l ≤ 5000 := by
  obtain ⟨x, ts, c, hx, hl, hp⟩ := h
  obtain ⟨_, _, _, u, hu, hs⟩ := P_good hp (by decide) (by decide)
  have h1 := hs.length_le
  rw [tots_pres, List.length_map] at h1
  have h2 := lx_count hl
  rw [hu, List.append_nil] at h2
  omega
theorem tots_ers (l : List NT) : tots (ers l) = tots l := by rw [← tots_pres, pres_er, tots_pres]
end Go.Proofs.Yteclclidibmajaa
