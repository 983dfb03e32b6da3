/-
  The nodes of a list of tokens, as plain data. No program is imported here.
  Laws of the nodes of a list of tokens: their number, their depth, their offsets; tokens in sequence. No program is imported here.
  Laws of the nodes of a list of tokens: two templates in sequence; nested blocks; many nodes. No program is imported here.
  Nodes as the laws ask of them: all nodes counted, offsets one behind the other, equal up to addresses and offsets. No program is imported here.
  The numbers of the faults of a list of tokens. No program is imported here.
-/
import Derived.Test.YteclclidibmajaaNt
namespace Go.Proofs.Yteclclidibmajaa
set_option linter.unusedVariables false
set_option linter.unusedSimpArgs false

/-- Does a kind open a block? -/
def blk (k : Nat) : Bool := k == 2 || k == 3 || k == 6
/-- The node of a token. -/
def nd (t : Tok) (e : Bool) (b l : List NT) : NT := .mk t.k t.a (ofL t.s) (ofL t.p) t.h e none 0 b none 0 l
/-- Where the fault is and which, or: the nodes, the tokens left, the number of nodes so far. -/
abbrev PR := Except (Nat × Nat) (List NT × List Tok × Nat)
def PR.cons (x : NT) (r : PR) : PR := match r with | .error e => .error e | .ok (l, y) => .ok (x :: l, y)
/-- The nodes up to the Else or End that belongs to the block (op: its kind, 0: none; ie: was its Else seen?), d blocks open, c nodes so far. -/
def pl : Nat → List Tok → Nat → Bool → Nat → Nat → PR
  | 0, _, _, _, _, _ => .error (0, 0)
  | _ + 1, [], _, _, _, c => .ok ([], [], c)
  | f + 1, t :: r, op, ie, d, c =>
    if t.k = 7 then (if op = 2 ∧ ie = false then .ok ([], t :: r, c) else .error (t.a, 13))
    else if t.k = 8 then (if op = 0 then .error (t.a, 13) else .ok ([], t :: r, c))
    else if t.k = 6 ∧ 0 < d ∨ blk t.k = true ∧ 32 ≤ d then .error (t.a, 13)
    else if 4096 ≤ c then .error (t.a, 14)
    else if blk t.k = false then (pl f r op ie d (c + 1)).cons (nd t false [] [])
    else match pl f r t.k false (d + 1) (c + 1) with
      | .error e => .error e
      | .ok (b, r1, c1) =>
        match r1 with
        | [] => .error (t.a, 7)
        | u :: r2 =>
          if u.k = 7 then
            match pl f r2 t.k true (d + 1) c1 with
            | .error e => .error e
            | .ok (b2, r3, c2) =>
              match r3 with
              | [] => .error (t.a, 7)
              | _ :: r4 => (pl f r4 op ie d c2).cons (nd t true b b2)
          else (pl f r2 op ie d c1).cons (nd t false b [])
theorem cons_ok {x : NT} {r : PR} {l : List NT} {y : List Tok × Nat} (h : r.cons x = .ok (l, y)) : ∃ l', l = x :: l' ∧ r = .ok (l', y) := by
  unfold PR.cons at h
  split at h
  · cases h
  · injection h with h; injection h with h1 h2; subst h1 h2; exact ⟨_, rfl, rfl⟩
/-- What is left is not longer. -/
theorem pl_rest : ∀ (f : Nat) (ts : List Tok) (op : Nat) (ie : Bool) (d c : Nat) (l : List NT) (r : List Tok) (c' : Nat), pl f ts op ie d c = .ok (l, r, c') → r.length ≤ ts.length
  | 0, _, _, _, _, _, _, _, _, h => by cases h
  | f + 1, [], op, ie, d, c, l, r, c', h => by simp [pl] at h; obtain ⟨_, rfl, _⟩ := h; exact Nat.le_refl _
  | f + 1, t :: ts, op, ie, d, c, l, r, c', h => by
    unfold pl at h
    split at h
    · split at h
      · simp at h; obtain ⟨_, rfl, _⟩ := h; exact Nat.le_refl _
      · cases h
    split at h
    · split at h
      · cases h
      · simp at h; obtain ⟨_, rfl, _⟩ := h; exact Nat.le_refl _
    split at h
    · cases h
    split at h
    · cases h
    split at h
    · obtain ⟨l', _, h2⟩ := cons_ok h
      have := pl_rest f ts _ _ _ _ _ _ _ h2
      simp; omega
    split at h
    · cases h
    rename_i b r1 c1 hb
    have h1 := pl_rest f _ _ _ _ _ _ _ _ hb
    split at h
    · cases h
    rename_i u r2
    split at h
    · split at h
      · cases h
      rename_i b2 r3 c2 hb2
      have h2 := pl_rest f _ _ _ _ _ _ _ _ hb2
      split at h
      · cases h
      rename_i v r4
      obtain ⟨l', _, h3⟩ := cons_ok h
      have h4 := pl_rest f _ _ _ _ _ _ _ _ h3
      simp at h1 h2 ⊢; omega
    · obtain ⟨l', _, h3⟩ := cons_ok h
      have h4 := pl_rest f _ _ _ _ _ _ _ _ h3
      simp at h1 ⊢; omega
/-- More fuel does not matter. -/
theorem pl_fuel : ∀ (f g : Nat) (ts : List Tok) (op : Nat) (ie : Bool) (d c : Nat), ts.length < f → ts.length < g → pl f ts op ie d c = pl g ts op ie d c
  | 0, _, _, _, _, _, _, h, _ => absurd h (Nat.not_lt_zero _)
  | _, 0, _, _, _, _, _, _, h => absurd h (Nat.not_lt_zero _)
  | f + 1, g + 1, [], _, _, _, _, _, _ => by simp [pl]
  | f + 1, g + 1, t :: ts, op, ie, d, c, hf, hg => by
    have hf' : ts.length < f := by simpa using hf
    have hg' : ts.length < g := by simpa using hg
    unfold pl
    rw [pl_fuel f g ts op ie d (c + 1) hf' hg', pl_fuel f g ts t.k false (d + 1) (c + 1) hf' hg']
    cases hb : pl g ts t.k false (d + 1) (c + 1) with
    | error e => rfl
    | ok x =>
      obtain ⟨b, r1, c1⟩ := x
      have h1 := pl_rest g _ _ _ _ _ _ _ _ hb
      cases r1 with
      | nil => rfl
      | cons u r2 =>
        simp at h1
        dsimp only
        rw [pl_fuel f g r2 t.k true (d + 1) c1 (by omega) (by omega), pl_fuel f g r2 op ie d c1 (by omega) (by omega)]
        cases hb2 : pl g r2 t.k true (d + 1) c1 with
        | error e => rfl
        | ok x =>
          obtain ⟨b2, r3, c2⟩ := x
          have h2 := pl_rest g _ _ _ _ _ _ _ _ hb2
          cases r3 with
          | nil => rfl
          | cons v r4 =>
            simp at h2
            dsimp only
            rw [pl_fuel f g r4 op ie d c2 (by omega) (by omega)]
def P (ts : List Tok) (op : Nat) (ie : Bool) (d c : Nat) : PR := pl (ts.length + 1) ts op ie d c
theorem P_nil (op : Nat) (ie : Bool) (d c : Nat) : P [] op ie d c = .ok ([], [], c) := rfl
theorem P_rest {ts : List Tok} {op : Nat} {ie : Bool} {d c : Nat} {l : List NT} {r : List Tok} {c' : Nat} (h : P ts op ie d c = .ok (l, r, c')) : r.length ≤ ts.length := pl_rest _ _ _ _ _ _ _ _ _ h
theorem P_else {t : Tok} {r : List Tok} {op : Nat} {ie : Bool} {d c : Nat} (h : t.k = 7) : P (t :: r) op ie d c = if op = 2 ∧ ie = false then .ok ([], t :: r, c) else .error (t.a, 13) := by
  unfold P pl; rw [if_pos h]
theorem P_end {t : Tok} {r : List Tok} {op : Nat} {ie : Bool} {d c : Nat} (h : t.k = 8) : P (t :: r) op ie d c = if op = 0 then .error (t.a, 13) else .ok ([], t :: r, c) := by
  unfold P pl; rw [if_neg (by omega), if_pos h]
theorem P_nest {t : Tok} {r : List Tok} {op : Nat} {ie : Bool} {d c : Nat} (h7 : t.k ≠ 7) (h8 : t.k ≠ 8) (h : t.k = 6 ∧ 0 < d ∨ blk t.k = true ∧ 32 ≤ d) : P (t :: r) op ie d c = .error (t.a, 13) := by
  unfold P pl; rw [if_neg h7, if_neg h8, if_pos h]
theorem P_many {t : Tok} {r : List Tok} {op : Nat} {ie : Bool} {d c : Nat} (h7 : t.k ≠ 7) (h8 : t.k ≠ 8) (h : ¬ (t.k = 6 ∧ 0 < d ∨ blk t.k = true ∧ 32 ≤ d)) (hc : 4096 ≤ c) : P (t :: r) op ie d c = .error (t.a, 14) := by
  unfold P pl; rw [if_neg h7, if_neg h8, if_neg h, if_pos hc]
theorem P_leaf {t : Tok} {r : List Tok} {op : Nat} {ie : Bool} {d c : Nat} (h7 : t.k ≠ 7) (h8 : t.k ≠ 8) (hc : c < 4096) (hb : blk t.k = false) : P (t :: r) op ie d c = (P r op ie d (c + 1)).cons (nd t false [] []) := by
  have h : ¬ (t.k = 6 ∧ 0 < d ∨ blk t.k = true ∧ 32 ≤ d) := by
    rintro (⟨h, _⟩ | ⟨h, _⟩)
    · rw [h] at hb; cases hb
    · rw [h] at hb; cases hb
  unfold P
  rw [show (t :: r).length + 1 = (r.length + 1) + 1 from rfl]
  conv => lhs; unfold pl
  rw [if_neg h7, if_neg h8, if_neg h, if_neg (by omega), if_pos hb]
/-- A block whose body ends in a fault. -/
theorem P_body_err {t : Tok} {r : List Tok} {op : Nat} {ie : Bool} {d c : Nat} {e : Nat × Nat} (h : ¬ (t.k = 6 ∧ 0 < d ∨ blk t.k = true ∧ 32 ≤ d)) (hc : c < 4096) (hb : blk t.k = true) (hp : P r t.k false (d + 1) (c + 1) = .error e) : P (t :: r) op ie d c = .error e := by
  have h7 : t.k ≠ 7 := by intro h; rw [h] at hb; cases hb
  have h8 : t.k ≠ 8 := by intro h; rw [h] at hb; cases hb
  unfold P at hp ⊢
  rw [show (t :: r).length + 1 = (r.length + 1) + 1 from rfl]
  conv => lhs; unfold pl
  rw [if_neg h7, if_neg h8, if_neg h, if_neg (by omega), if_neg (by rw [hb]; decide), hp]
/-- A block that nothing closes. -/
theorem P_body_open {t : Tok} {r : List Tok} {op : Nat} {ie : Bool} {d c : Nat} {b : List NT} {c1 : Nat} (h : ¬ (t.k = 6 ∧ 0 < d ∨ blk t.k = true ∧ 32 ≤ d)) (hc : c < 4096) (hb : blk t.k = true) (hp : P r t.k false (d + 1) (c + 1) = .ok (b, [], c1)) : P (t :: r) op ie d c = .error (t.a, 7) := by
  have h7 : t.k ≠ 7 := by intro h; rw [h] at hb; cases hb
  have h8 : t.k ≠ 8 := by intro h; rw [h] at hb; cases hb
  unfold P at hp ⊢
  rw [show (t :: r).length + 1 = (r.length + 1) + 1 from rfl]
  conv => lhs; unfold pl
  rw [if_neg h7, if_neg h8, if_neg h, if_neg (by omega), if_neg (by rw [hb]; decide), hp]
/-- A block that an End closes. -/
theorem P_body_end {t u : Tok} {r r2 : List Tok} {op : Nat} {ie : Bool} {d c : Nat} {b : List NT} {c1 : Nat} (h : ¬ (t.k = 6 ∧ 0 < d ∨ blk t.k = true ∧ 32 ≤ d)) (hc : c < 4096) (hb : blk t.k = true) (hp : P r t.k false (d + 1) (c + 1) = .ok (b, u :: r2, c1)) (hu : u.k ≠ 7) :
    P (t :: r) op ie d c = (P r2 op ie d c1).cons (nd t false b []) := by
  have h7 : t.k ≠ 7 := by intro h; rw [h] at hb; cases hb
  have h8 : t.k ≠ 8 := by intro h; rw [h] at hb; cases hb
  have hl := P_rest hp
  simp at hl
  unfold P at hp ⊢
  rw [show (t :: r).length + 1 = (r.length + 1) + 1 from rfl]
  conv => lhs; unfold pl
  rw [if_neg h7, if_neg h8, if_neg h, if_neg (by omega), if_neg (by rw [hb]; decide), hp]
  dsimp only
  rw [if_neg hu, pl_fuel (r.length + 1) (r2.length + 1) r2 _ _ _ _ (by omega) (by omega)]
/-- A block with an Else whose second part ends in a fault. -/
theorem P_else_err {t u : Tok} {r r2 : List Tok} {op : Nat} {ie : Bool} {d c : Nat} {b : List NT} {c1 : Nat} {e : Nat × Nat} (h : ¬ (t.k = 6 ∧ 0 < d ∨ blk t.k = true ∧ 32 ≤ d)) (hc : c < 4096) (hb : blk t.k = true) (hp : P r t.k false (d + 1) (c + 1) = .ok (b, u :: r2, c1)) (hu : u.k = 7)
    (hp2 : P r2 t.k true (d + 1) c1 = .error e) : P (t :: r) op ie d c = .error e := by
  have h7 : t.k ≠ 7 := by intro h; rw [h] at hb; cases hb
  have h8 : t.k ≠ 8 := by intro h; rw [h] at hb; cases hb
  have hl := P_rest hp
  simp at hl
  unfold P at hp hp2 ⊢
  rw [show (t :: r).length + 1 = (r.length + 1) + 1 from rfl]
  conv => lhs; unfold pl
  rw [if_neg h7, if_neg h8, if_neg h, if_neg (by omega), if_neg (by rw [hb]; decide), hp]
  dsimp only
  rw [if_pos hu, pl_fuel (r.length + 1) (r2.length + 1) r2 _ _ _ _ (by omega) (by omega), hp2]
theorem P_else_open {t u : Tok} {r r2 : List Tok} {op : Nat} {ie : Bool} {d c : Nat} {b b2 : List NT} {c1 c2 : Nat} (h : ¬ (t.k = 6 ∧ 0 < d ∨ blk t.k = true ∧ 32 ≤ d)) (hc : c < 4096) (hb : blk t.k = true) (hp : P r t.k false (d + 1) (c + 1) = .ok (b, u :: r2, c1)) (hu : u.k = 7)
    (hp2 : P r2 t.k true (d + 1) c1 = .ok (b2, [], c2)) : P (t :: r) op ie d c = .error (t.a, 7) := by
  have h7 : t.k ≠ 7 := by intro h; rw [h] at hb; cases hb
  have h8 : t.k ≠ 8 := by intro h; rw [h] at hb; cases hb
  have hl := P_rest hp
  simp at hl
  unfold P at hp hp2 ⊢
  rw [show (t :: r).length + 1 = (r.length + 1) + 1 from rfl]
  conv => lhs; unfold pl
  rw [if_neg h7, if_neg h8, if_neg h, if_neg (by omega), if_neg (by rw [hb]; decide), hp]
  dsimp only
  rw [if_pos hu, pl_fuel (r.length + 1) (r2.length + 1) r2 _ _ _ _ (by omega) (by omega), hp2]
theorem P_else_end {t u v : Tok} {r r2 r4 : List Tok} {op : Nat} {ie : Bool} {d c : Nat} {b b2 : List NT} {c1 c2 : Nat} (h : ¬ (t.k = 6 ∧ 0 < d ∨ blk t.k = true ∧ 32 ≤ d)) (hc : c < 4096) (hb : blk t.k = true) (hp : P r t.k false (d + 1) (c + 1) = .ok (b, u :: r2, c1)) (hu : u.k = 7)
    (hp2 : P r2 t.k true (d + 1) c1 = .ok (b2, v :: r4, c2)) : P (t :: r) op ie d c = (P r4 op ie d c2).cons (nd t true b b2) := by
  have h7 : t.k ≠ 7 := by intro h; rw [h] at hb; cases hb
  have h8 : t.k ≠ 8 := by intro h; rw [h] at hb; cases hb
  have hl := P_rest hp
  have hl2 := P_rest hp2
  simp at hl hl2
  unfold P at hp hp2 ⊢
  rw [show (t :: r).length + 1 = (r.length + 1) + 1 from rfl]
  conv => lhs; unfold pl
  rw [if_neg h7, if_neg h8, if_neg h, if_neg (by omega), if_neg (by rw [hb]; decide), hp]
  dsimp only
  rw [if_pos hu, pl_fuel (r.length + 1) (r2.length + 1) r2 _ _ _ _ (by omega) (by omega), hp2]
  dsimp only
  rw [pl_fuel (r.length + 1) (r4.length + 1) r4 _ _ _ _ (by omega) (by omega)]
/-- What the rest begins with: nothing, or the Else or End that stopped it. -/
theorem pl_stop : ∀ (f : Nat) (ts : List Tok) (op : Nat) (ie : Bool) (d c : Nat) (l : List NT) (u : Tok) (r : List Tok) (c' : Nat), pl f ts op ie d c = .ok (l, u :: r, c') → (u.k = 7 ∧ op = 2 ∧ ie = false) ∨ (u.k = 8 ∧ op ≠ 0)
  | 0, _, _, _, _, _, _, _, _, _, h => by cases h
  | f + 1, [], op, ie, d, c, l, u, r, c', h => by simp [pl] at h
  | f + 1, t :: ts, op, ie, d, c, l, u, r, c', h => by
    unfold pl at h
    split at h
    · rename_i hk
      split at h
      · rename_i ho; simp at h; obtain ⟨_, ⟨rfl, _⟩, _⟩ := h; exact .inl ⟨hk, ho.1, ho.2⟩
      · cases h
    split at h
    · rename_i hk
      split at h
      · cases h
      · rename_i ho; simp at h; obtain ⟨_, ⟨rfl, _⟩, _⟩ := h; exact .inr ⟨hk, ho⟩
    split at h
    · cases h
    split at h
    · cases h
    split at h
    · obtain ⟨l', _, h2⟩ := cons_ok h
      exact pl_stop f _ _ _ _ _ _ _ _ _ h2
    split at h
    · cases h
    split at h
    · cases h
    split at h
    · split at h
      · cases h
      split at h
      · cases h
      obtain ⟨l', _, h3⟩ := cons_ok h
      exact pl_stop f _ _ _ _ _ _ _ _ _ h3
    · obtain ⟨l', _, h3⟩ := cons_ok h
      exact pl_stop f _ _ _ _ _ _ _ _ _ h3
theorem P_stop {ts : List Tok} {op : Nat} {ie : Bool} {d c : Nat} {l : List NT} {u : Tok} {r : List Tok} {c' : Nat} (h : P ts op ie d c = .ok (l, u :: r, c')) : (u.k = 7 ∧ op = 2 ∧ ie = false) ∨ (u.k = 8 ∧ op ≠ 0) := pl_stop _ _ _ _ _ _ _ _ _ _ h
end Go.Proofs.Yteclclidibmajaa

namespace Go.Proofs.Yteclclidibmajaa
set_option linter.unusedVariables false
set_option linter.unusedSimpArgs false

/-! ### Number and depth -/
def blkI (k : Int) : Bool := k == 2 || k == 3 || k == 6
namespace NT
mutual
def cnt : NT → Nat | mk k _ _ _ _ _ _ _ b _ _ l => 1 + (if blkI k then cnts b else 0) + (if k = 2 then cnts l else 0)
def cnts : List NT → Nat | [] => 0 | x :: r => cnt x + cnts r
end
mutual
def nst : NT → Nat | mk k _ _ _ _ _ _ _ b _ _ l => if blkI k then max (1 + nsts b) (if k = 2 then 1 + nsts l else 0) else 0
def nsts : List NT → Nat | [] => 0 | x :: r => max (nst x) (nsts r)
end
theorem cnt_eq (t : NT) : t.cnt = 1 + (if blkI t.k then cnts t.b else 0) + (if t.k = 2 then cnts t.l else 0) := by cases t; rw [cnt]; rfl
theorem nst_eq (t : NT) : t.nst = if blkI t.k then max (1 + nsts t.b) (if t.k = 2 then 1 + nsts t.l else 0) else 0 := by cases t; rw [nst]; rfl
theorem cnts_nil : cnts [] = 0 := by simp [cnts]
theorem cnts_cons (x : NT) (r : List NT) : cnts (x :: r) = cnt x + cnts r := by simp [cnts]
theorem nsts_nil : nsts [] = 0 := by simp [nsts]
theorem nsts_cons (x : NT) (r : List NT) : nsts (x :: r) = max (nst x) (nsts r) := by simp [nsts]
theorem cnts_append : ∀ l m : List NT, cnts (l ++ m) = cnts l + cnts m
  | [], m => by simp [cnts_nil]
  | x :: l, m => by rw [List.cons_append, cnts_cons, cnts_cons, cnts_append l m]; omega
theorem nsts_append : ∀ l m : List NT, nsts (l ++ m) = max (nsts l) (nsts m)
  | [], m => by simp [nsts_nil]
  | x :: l, m => by rw [List.cons_append, nsts_cons, nsts_cons, nsts_append l m]; omega
theorem cnts_er_of : ∀ l : List NT, (∀ x, x ∈ l → x.er.cnt = x.cnt) → cnts (ers l) = cnts l
  | [], _ => by simp [ers, cnts_nil]
  | x :: l, h => by rw [ers, cnts_cons, cnts_cons, h x (by simp), cnts_er_of l fun y hy => h y (by simp [hy])]
theorem nsts_er_of : ∀ l : List NT, (∀ x, x ∈ l → x.er.nst = x.nst) → nsts (ers l) = nsts l
  | [], _ => by simp [ers, nsts_nil]
  | x :: l, h => by rw [ers, nsts_cons, nsts_cons, h x (by simp), nsts_er_of l fun y hy => h y (by simp [hy])]
theorem cnt_er (t : NT) : t.er.cnt = t.cnt := by
  refine ind (M := fun t => t.er.cnt = t.cnt) (fun t h1 h2 => ?_) t
  rw [cnt_eq t.er, cnt_eq t, er_k, er_b, er_l, cnts_er_of _ h1, cnts_er_of _ h2]
theorem nst_er (t : NT) : t.er.nst = t.nst := by
  refine ind (M := fun t => t.er.nst = t.nst) (fun t h1 h2 => ?_) t
  rw [nst_eq t.er, nst_eq t, er_k, er_b, er_l, nsts_er_of _ h1, nsts_er_of _ h2]
theorem cnts_er (l : List NT) : cnts (ers l) = cnts l := cnts_er_of l fun x _ => cnt_er x
theorem nsts_er (l : List NT) : nsts (ers l) = nsts l := nsts_er_of l fun x _ => nst_er x
theorem cnts_le_len : ∀ l : List NT, l.length ≤ cnts l
  | [] => Nat.zero_le _
  | x :: l => by rw [cnts_cons, cnt_eq, List.length_cons]; have := cnts_le_len l; omega

/-! ### Offsets in preorder -/
mutual
def pre : NT → List Int | mk _ a _ _ _ _ _ _ b _ _ l => a :: (pres b ++ pres l)
def pres : List NT → List Int | [] => [] | x :: r => pre x ++ pres r
end
theorem pre_eq (t : NT) : t.pre = t.a :: (pres t.b ++ pres t.l) := by cases t; simp [pre, a, b, l]
theorem pres_nil : pres [] = [] := by simp [pres]
theorem pres_cons (x : NT) (r : List NT) : pres (x :: r) = pre x ++ pres r := by simp [pres]
theorem pres_er_of : ∀ l : List NT, (∀ x, x ∈ l → x.er.pre = x.pre) → pres (ers l) = pres l
  | [], _ => by simp [ers, pres_nil]
  | x :: l, h => by rw [ers, pres_cons, pres_cons, h x (by simp), pres_er_of l fun y hy => h y (by simp [hy])]
theorem pre_er (t : NT) : t.er.pre = t.pre := by
  refine ind (M := fun t => t.er.pre = t.pre) (fun t h1 h2 => ?_) t
  rw [pre_eq t.er, pre_eq t, er_a, er_b, er_l, pres_er_of _ h1, pres_er_of _ h2]
theorem pres_er (l : List NT) : pres (ers l) = pres l := pres_er_of l fun x _ => pre_er x
end NT
open NT
theorem nd_k (t : Tok) (e : Bool) (b l : List NT) : (nd t e b l).k = t.k := rfl
theorem nd_a (t : Tok) (e : Bool) (b l : List NT) : (nd t e b l).a = t.a := rfl
theorem blkI_nat (k : Nat) : blkI (k : Int) = blk k := by
  unfold blkI blk
  rw [Bool.eq_iff_iff]
  simp only [Bool.or_eq_true, beq_iff_eq]
  omega
theorem nd_cnt (t : Tok) (e : Bool) (b l : List NT) : (nd t e b l).cnt = 1 + (if blk t.k then cnts b else 0) + (if t.k = 2 then cnts l else 0) := by
  rw [cnt_eq, nd_k, blkI_nat]
  have : ((t.k : Int) = 2) ↔ (t.k = 2) := by omega
  simp only [this]
  rfl
theorem nd_nst (t : Tok) (e : Bool) (b l : List NT) : (nd t e b l).nst = if blk t.k then max (1 + nsts b) (if t.k = 2 then 1 + nsts l else 0) else 0 := by
  rw [nst_eq, nd_k, blkI_nat]
  have : ((t.k : Int) = 2) ↔ (t.k = 2) := by omega
  simp only [this]
  rfl
theorem nd_pre (t : Tok) (e : Bool) (b l : List NT) : (nd t e b l).pre = (t.a : Int) :: (pres b ++ pres l) := pre_eq _
/-- The number, the depth and the offsets of what was read. -/
theorem pl_good : ∀ (f : Nat) (ts : List Tok) (op : Nat) (ie : Bool) (d c : Nat) (l : List NT) (r : List Tok) (c' : Nat), pl f ts op ie d c = .ok (l, r, c') → c ≤ 4096 → d ≤ 32 →
    c' = c + cnts l ∧ c' ≤ 4096 ∧ d + nsts l ≤ 32 ∧ ∃ u, ts = u ++ r ∧ (pres l).Sublist (u.map fun t => (t.a : Int))
  | 0, _, _, _, _, _, _, _, _, h, _, _ => by cases h
  | f + 1, [], op, ie, d, c, l, r, c', h, hc, hd => by
    simp [pl] at h; obtain ⟨rfl, rfl, rfl⟩ := h
    exact ⟨by simp [cnts_nil], hc, by simp [nsts_nil]; exact hd, [], rfl, by simp [pres_nil]⟩
  | f + 1, t :: ts, op, ie, d, c, l, r, c', h, hc, hd => by
    have hz : ∀ (r' : List Tok), t :: ts = r' → c = c + cnts [] ∧ c ≤ 4096 ∧ d + nsts [] ≤ 32 ∧ ∃ u, t :: ts = u ++ r' ∧ (pres []).Sublist (u.map fun t : Tok => (t.a : Int)) := by
      rintro r' rfl
      exact ⟨by simp [cnts_nil], hc, by simp [nsts_nil]; exact hd, [], rfl, by simp [pres_nil]⟩
    unfold pl at h
    split at h
    · split at h
      · simp at h; obtain ⟨rfl, h2, rfl⟩ := h; exact hz _ h2
      · cases h
    split at h
    · split at h
      · cases h
      · simp at h; obtain ⟨rfl, h2, rfl⟩ := h; exact hz _ h2
    split at h
    · cases h
    rename_i hnest
    split at h
    · cases h
    rename_i hlim
    split at h
    · rename_i hb
      obtain ⟨l', rfl, h2⟩ := cons_ok h
      obtain ⟨g1, g2, g3, u, g4, g5⟩ := pl_good f ts _ _ _ _ _ _ _ h2 (by omega) hd
      refine ⟨?_, g2, ?_, t :: u, by rw [g4]; rfl, ?_⟩
      · rw [cnts_cons, nd_cnt, hb, g1]; simp [cnts_nil]; omega
      · rw [nsts_cons, nd_nst, hb]; simp; exact g3
      · rw [pres_cons, nd_pre, pres_nil]; simpa using g5
    rename_i hb
    have hb : blk t.k = true := by simpa using hb
    have hd32 : d + 1 ≤ 32 := by
      rcases Nat.lt_or_ge d 32 with h1 | h1
      · omega
      · exact absurd (.inr ⟨hb, h1⟩) hnest
    split at h
    · cases h
    rename_i b r1 c1 hp1
    obtain ⟨a1, a2, a3, u1, a4, a5⟩ := pl_good f ts _ _ _ _ _ _ _ hp1 (by omega) hd32
    split at h
    · cases h
    rename_i v r2
    split at h
    · rename_i hv
      split at h
      · cases h
      rename_i b2 r3 c2 hp2
      have hk2 : t.k = 2 := by
        rcases pl_stop _ _ _ _ _ _ _ _ _ _ hp1 with ⟨_, h1, _⟩ | ⟨h1, _⟩
        · exact h1
        · omega
      obtain ⟨b1', b2', b3', u2, b4', b5'⟩ := pl_good f r2 _ _ _ _ _ _ _ hp2 a2 hd32
      split at h
      · cases h
      rename_i x r4
      obtain ⟨l', rfl, h3⟩ := cons_ok h
      obtain ⟨g1, g2, g3, u, g4, g5⟩ := pl_good f r4 _ _ _ _ _ _ _ h3 b2' hd
      refine ⟨?_, g2, ?_, t :: (u1 ++ v :: (u2 ++ x :: u)), by rw [a4, b4', g4]; simp, ?_⟩
      · rw [cnts_cons, nd_cnt, hb, hk2, g1, b1', a1]; simp; omega
      · rw [nsts_cons, nd_nst, hb, hk2]; simp; omega
      · rw [pres_cons, nd_pre, List.cons_append, List.map_cons, List.append_assoc]
        refine List.Sublist.cons_cons _ ?_
        rw [List.map_append]
        refine List.Sublist.append a5 ?_
        rw [List.map_cons]
        refine List.Sublist.cons _ ?_
        rw [List.map_append]
        refine List.Sublist.append b5' ?_
        rw [List.map_cons]
        exact List.Sublist.cons _ g5
    · rename_i hv
      obtain ⟨l', rfl, h3⟩ := cons_ok h
      obtain ⟨g1, g2, g3, u, g4, g5⟩ := pl_good f r2 _ _ _ _ _ _ _ h3 a2 hd
      refine ⟨?_, g2, ?_, t :: (u1 ++ v :: u), by rw [a4, g4]; simp, ?_⟩
      · rw [cnts_cons, nd_cnt, hb, g1, a1, cnts_nil]; simp; omega
      · rw [nsts_cons, nd_nst, hb, nsts_nil]; simp; split <;> omega
      · rw [pres_cons, nd_pre, pres_nil, List.append_nil, List.cons_append, List.map_cons]
        refine List.Sublist.cons_cons _ ?_
        rw [List.map_append]
        refine List.Sublist.append a5 ?_
        rw [List.map_cons]
        exact List.Sublist.cons _ g5
theorem P_good {ts : List Tok} {op : Nat} {ie : Bool} {d c : Nat} {l : List NT} {r : List Tok} {c' : Nat} (h : P ts op ie d c = .ok (l, r, c')) (hc : c ≤ 4096) (hd : d ≤ 32) :
    c' = c + cnts l ∧ c' ≤ 4096 ∧ d + nsts l ≤ 32 ∧ ∃ u, ts = u ++ r ∧ (pres l).Sublist (u.map fun t => (t.a : Int)) := pl_good _ _ _ _ _ _ _ _ _ h hc hd

/-! ### Tokens in sequence -/
def PR.pre (l : List NT) (r : PR) : PR := match r with | .error e => .error e | .ok (m, y) => .ok (l ++ m, y)
theorem cons_pre (x : NT) (l : List NT) (r : PR) : (PR.pre l r).cons x = PR.pre (x :: l) r := by cases r <;> rfl
theorem pre_nil (r : PR) : PR.pre [] r = r := by cases r <;> rfl
theorem P_step_block {t : Tok} {r : List Tok} {op : Nat} {ie : Bool} {d c : Nat} (h : ¬ (t.k = 6 ∧ 0 < d ∨ blk t.k = true ∧ 32 ≤ d)) (hc : c < 4096) (hb : blk t.k = true) :
    P (t :: r) op ie d c = match P r t.k false (d + 1) (c + 1) with
      | .error e => .error e
      | .ok (b, [], _) => .error (t.a, 7)
      | .ok (b, u :: r2, c1) => if u.k = 7 then (match P r2 t.k true (d + 1) c1 with
          | .error e => .error e
          | .ok (b2, [], _) => .error (t.a, 7)
          | .ok (b2, _ :: r4, c2) => (P r4 op ie d c2).cons (nd t true b b2)) else (P r2 op ie d c1).cons (nd t false b []) := by
  cases hp : P r t.k false (d + 1) (c + 1) with
  | error e => exact P_body_err h hc hb hp
  | ok x =>
    obtain ⟨b, r1, c1⟩ := x
    cases r1 with
    | nil => exact P_body_open h hc hb hp
    | cons u r2 =>
      dsimp only
      by_cases hu : u.k = 7
      · rw [if_pos hu]
        cases hp2 : P r2 t.k true (d + 1) c1 with
        | error e => exact P_else_err h hc hb hp hu hp2
        | ok x =>
          obtain ⟨b2, r3, c2⟩ := x
          cases r3 with
          | nil => exact P_else_open h hc hb hp hu hp2
          | cons v r4 => exact P_else_end h hc hb hp hu hp2
      · rw [if_neg hu]; exact P_body_end h hc hb hp hu
/-- What comes behind does not matter where a block's end was found; else it goes on. -/
theorem P_append : ∀ (n : Nat) (ts : List Tok) (op : Nat) (ie : Bool) (d c : Nat) (l : List NT) (r : List Tok) (c' : Nat), ts.length ≤ n → P ts op ie d c = .ok (l, r, c') →
    ∀ us : List Tok, P (ts ++ us) op ie d c = if r = [] then PR.pre l (P us op ie d c') else .ok (l, r ++ us, c')
  | 0, ts, op, ie, d, c, l, r, c', hn, h => by
    intro us
    obtain rfl : ts = [] := List.length_eq_zero_iff.1 (by omega)
    rw [P_nil] at h
    simp at h; obtain ⟨rfl, rfl, rfl⟩ := h
    rw [if_pos rfl, pre_nil]; rfl
  | n + 1, [], op, ie, d, c, l, r, c', hn, h => by
    intro us
    rw [P_nil] at h
    simp at h; obtain ⟨rfl, rfl, rfl⟩ := h
    rw [if_pos rfl, pre_nil]; rfl
  | n + 1, t :: ts, op, ie, d, c, l, r, c', hn, h => by
    intro us
    have hn' : ts.length ≤ n := by simpa using hn
    rw [List.cons_append]
    by_cases h7 : t.k = 7
    · rw [P_else h7] at h ⊢
      split at h
      · rename_i ho
        simp at h; obtain ⟨rfl, rfl, rfl⟩ := h
        rw [if_pos ho, if_neg (by simp)]; rfl
      · cases h
    by_cases h8 : t.k = 8
    · rw [P_end h8] at h ⊢
      split at h
      · cases h
      · rename_i ho
        simp at h; obtain ⟨rfl, rfl, rfl⟩ := h
        rw [if_neg ho, if_neg (by simp)]; rfl
    by_cases hnest : t.k = 6 ∧ 0 < d ∨ blk t.k = true ∧ 32 ≤ d
    · rw [P_nest h7 h8 hnest] at h; cases h
    by_cases hc : 4096 ≤ c
    · rw [P_many h7 h8 hnest hc] at h; cases h
    cases hb : blk t.k with
    | false =>
      rw [P_leaf h7 h8 (by omega) hb] at h ⊢
      obtain ⟨l', rfl, h2⟩ := cons_ok h
      rw [P_append n ts _ _ _ _ _ _ _ hn' h2 us]
      split
      · exact cons_pre _ _ _
      · rfl
    | true =>
      rw [P_step_block hnest (by omega) hb] at h ⊢
      cases hp : P ts t.k false (d + 1) (c + 1) with
      | error e => rw [hp] at h; cases h
      | ok x =>
        obtain ⟨b, r1, c1⟩ := x
        rw [hp] at h
        have hl1 := P_rest hp
        rw [P_append n ts _ _ _ _ _ _ _ hn' hp us]
        cases r1 with
        | nil => cases h
        | cons u r2 =>
          simp only [List.length_cons] at hl1
          rw [if_neg (by simp)]
          dsimp only [List.cons_append] at h ⊢
          by_cases hu : u.k = 7
          · rw [if_pos hu] at h ⊢
            cases hp2 : P r2 t.k true (d + 1) c1 with
            | error e => rw [hp2] at h; cases h
            | ok x =>
              obtain ⟨b2, r3, c2⟩ := x
              rw [hp2] at h
              have hl2 := P_rest hp2
              rw [P_append n r2 _ _ _ _ _ _ _ (by omega) hp2 us]
              cases r3 with
              | nil => cases h
              | cons v r4 =>
                simp only [List.length_cons] at hl2
                rw [if_neg (by simp)]
                dsimp only [List.cons_append] at h ⊢
                obtain ⟨l', rfl, h3⟩ := cons_ok h
                rw [P_append n r4 _ _ _ _ _ _ _ (by omega) h3 us]
                split
                · exact cons_pre _ _ _
                · rfl
          · rw [if_neg hu] at h ⊢
            obtain ⟨l', rfl, h3⟩ := cons_ok h
            rw [P_append n r2 _ _ _ _ _ _ _ (by omega) h3 us]
            split
            · exact cons_pre _ _ _
            · rfl
theorem P_top_rest {ts : List Tok} {d c : Nat} {l : List NT} {r : List Tok} {c' : Nat} (h : P ts 0 false d c = .ok (l, r, c')) : r = [] := by
  cases r with
  | nil => rfl
  | cons u r => rcases P_stop h with ⟨_, h1, _⟩ | ⟨_, h1⟩; cases h1; exact absurd rfl h1
end Go.Proofs.Yteclclidibmajaa

namespace Go.Proofs.Yteclclidibmajaa
set_option linter.unusedVariables false
set_option linter.unusedSimpArgs false
open NT

/-! ### Two templates in sequence -/
theorem nd_strip (t : Tok) (s : Nat) (e : Bool) (b b' l l' : List NT) (hb : strips b = strips b') (hl : strips l = strips l') : (nd (shift s t) e b l).strip = (nd t e b' l').strip := by
  rw [strip_mk, strip_mk]
  show NT.mk _ 0 _ _ _ _ none 0 (strips b) none 0 (strips l) = NT.mk _ 0 _ _ _ _ none 0 (strips b') none 0 (strips l')
  rw [hb, hl]
  rfl
theorem strips_nil : strips [] = [] := by simp [strips]
theorem strips_cons (x : NT) (r : List NT) : strips (x :: r) = strip x :: strips r := by simp [strips]
theorem P_shift : ∀ (n : Nat) (ts : List Tok) (op : Nat) (ie : Bool) (d c : Nat) (l : List NT) (r : List Tok) (c' : Nat), ts.length ≤ n → P ts op ie d c = .ok (l, r, c') → c ≤ 4096 → d ≤ 32 →
    ∀ s k, c' + k ≤ 4096 → ∃ l2, P (ts.map (shift s)) op ie d (c + k) = .ok (l2, r.map (shift s), c' + k) ∧ strips l2 = strips l
  | n, [], op, ie, d, c, l, r, c', hn, h, hc, hd => by
    intro s k hk
    rw [P_nil] at h
    simp at h; obtain ⟨rfl, rfl, rfl⟩ := h
    exact ⟨[], rfl, rfl⟩
  | 0, t :: ts, op, ie, d, c, l, r, c', hn, h, hc, hd => by simp at hn
  | n + 1, t :: ts, op, ie, d, c, l, r, c', hn, h, hc, hd => by
    intro s k hk
    have hn' : ts.length ≤ n := by simpa using hn
    have hg := P_good h hc hd
    rw [List.map_cons]
    have ek : (shift s t).k = t.k := rfl
    by_cases h7 : t.k = 7
    · rw [P_else h7] at h
      rw [P_else (t := shift s t) h7]
      split at h
      · rename_i ho
        simp at h; obtain ⟨rfl, rfl, rfl⟩ := h
        rw [if_pos ho]
        exact ⟨[], by simp, rfl⟩
      · cases h
    by_cases h8 : t.k = 8
    · rw [P_end h8] at h
      rw [P_end (t := shift s t) h8]
      split at h
      · cases h
      · rename_i ho
        simp at h; obtain ⟨rfl, rfl, rfl⟩ := h
        rw [if_neg ho]
        exact ⟨[], by simp, rfl⟩
    by_cases hnest : t.k = 6 ∧ 0 < d ∨ blk t.k = true ∧ 32 ≤ d
    · rw [P_nest h7 h8 hnest] at h; cases h
    by_cases hc4 : 4096 ≤ c
    · rw [P_many h7 h8 hnest hc4] at h; cases h
    cases hb : blk t.k with
    | false =>
      rw [P_leaf h7 h8 (by omega) hb] at h
      obtain ⟨l', rfl, h2⟩ := cons_ok h
      have hck : c + k < 4096 := by have := (P_good h2 (by omega) hd).1; omega
      rw [P_leaf (t := shift s t) h7 h8 hck hb]
      obtain ⟨l2, g1, g2⟩ := P_shift n ts _ _ _ _ _ _ _ hn' h2 (by omega) hd s k hk
      rw [show c + 1 + k = c + k + 1 by omega] at g1
      rw [g1]
      exact ⟨nd (shift s t) false [] [] :: l2, rfl, by rw [strips_cons, strips_cons, g2, nd_strip t s false [] [] [] [] rfl rfl]⟩
    | true =>
      have hd32 : d + 1 ≤ 32 := by
        rcases Nat.lt_or_ge d 32 with h1 | h1
        · omega
        · exact absurd (.inr ⟨hb, h1⟩) hnest
      rw [P_step_block hnest (by omega) hb] at h
      cases hp : P ts t.k false (d + 1) (c + 1) with
      | error e => rw [hp] at h; cases h
      | ok x =>
        obtain ⟨b, r1, c1⟩ := x
        rw [hp] at h
        have hl1 := P_rest hp
        have hg1 := P_good hp (by omega) hd32
        cases r1 with
        | nil => cases h
        | cons u r2 =>
          simp only [List.length_cons] at hl1
          dsimp only at h
          by_cases hu : u.k = 7
          · rw [if_pos hu] at h
            cases hp2 : P r2 t.k true (d + 1) c1 with
            | error e => rw [hp2] at h; cases h
            | ok x =>
              obtain ⟨b2, r3, c2⟩ := x
              rw [hp2] at h
              have hl2 := P_rest hp2
              have hg2 := P_good hp2 hg1.2.1 hd32
              cases r3 with
              | nil => cases h
              | cons v r4 =>
                simp only [List.length_cons] at hl2
                dsimp only at h
                obtain ⟨l', rfl, h3⟩ := cons_ok h
                have hg3 := P_good h3 hg2.2.1 hd
                obtain ⟨m1, e1, e2⟩ := P_shift n ts _ _ _ _ _ _ _ hn' hp (by omega) hd32 s k (by omega)
                obtain ⟨m2, e3, e4⟩ := P_shift n r2 _ _ _ _ _ _ _ (by omega) hp2 hg1.2.1 hd32 s k (by omega)
                obtain ⟨m3, e5, e6⟩ := P_shift n r4 _ _ _ _ _ _ _ (by omega) h3 hg2.2.1 hd s k hk
                rw [show c + 1 + k = c + k + 1 by omega] at e1
                refine ⟨nd (shift s t) true m1 m2 :: m3, ?_, by rw [strips_cons, strips_cons, e6, nd_strip t s true m1 b m2 b2 e2 e4]⟩
                rw [P_else_end (t := shift s t) (u := shift s u) (v := shift s v) (r2 := r2.map (shift s)) (r4 := r4.map (shift s)) hnest (by omega) hb e1 hu e3, e5]
                rfl
          · rw [if_neg hu] at h
            obtain ⟨l', rfl, h3⟩ := cons_ok h
            have hg3 := P_good h3 hg1.2.1 hd
            obtain ⟨m1, e1, e2⟩ := P_shift n ts _ _ _ _ _ _ _ hn' hp (by omega) hd32 s k (by omega)
            obtain ⟨m3, e5, e6⟩ := P_shift n r2 _ _ _ _ _ _ _ (by omega) h3 hg1.2.1 hd s k hk
            rw [show c + 1 + k = c + k + 1 by omega] at e1
            refine ⟨nd (shift s t) false m1 [] :: m3, ?_, by rw [strips_cons, strips_cons, e6, nd_strip t s false m1 b [] [] e2 rfl]⟩
            rw [P_body_end (t := shift s t) (u := shift s u) (r2 := r2.map (shift s)) hnest (by omega) hb e1 hu, e5]
            rfl
theorem P_suffix {ts : List Tok} {op : Nat} {ie : Bool} {d c : Nat} {l : List NT} {r : List Tok} {c' : Nat} (h : P ts op ie d c = .ok (l, r, c')) (hc : c ≤ 4096) (hd : d ≤ 32) : ∃ u, ts = u ++ r := by
  obtain ⟨_, _, _, u, h1, _⟩ := P_good h hc hd
  exact ⟨u, h1⟩
/-- A last token that is a text is the last node. -/
theorem P_last : ∀ (n : Nat) (ts : List Tok) (op : Nat) (ie : Bool) (d c : Nat) (l : List NT) (c' : Nat) (t : Tok), ts.length ≤ n → P ts op ie d c = .ok (l, [], c') → c ≤ 4096 → d ≤ 32 → ts.getLast? = some t → t.k = 0 → l.getLast? = some (nd t false [] [])
  | n, [], _, _, _, _, _, _, _, _, _, _, _, hl, _ => by simp at hl
  | 0, _ :: _, _, _, _, _, _, _, _, hn, _, _, _, _, _ => by simp at hn
  | n + 1, t0 :: ts, op, ie, d, c, l, c', t, hn, h, hc, hd, hl, ht => by
    have hn' : ts.length ≤ n := by simpa using hn
    by_cases h7 : t0.k = 7
    · rw [P_else h7] at h
      split at h
      · simp at h
      · cases h
    by_cases h8 : t0.k = 8
    · rw [P_end h8] at h
      split at h
      · cases h
      · simp at h
    by_cases hnest : t0.k = 6 ∧ 0 < d ∨ blk t0.k = true ∧ 32 ≤ d
    · rw [P_nest h7 h8 hnest] at h; cases h
    by_cases hc4 : 4096 ≤ c
    · rw [P_many h7 h8 hnest hc4] at h; cases h
    cases hb : blk t0.k with
    | false =>
      rw [P_leaf h7 h8 (by omega) hb] at h
      obtain ⟨l', rfl, h2⟩ := cons_ok h
      cases ts with
      | nil =>
        rw [P_nil] at h2
        simp at h2; obtain ⟨rfl, _⟩ := h2
        simp at hl; subst hl; rfl
      | cons x ts =>
        rw [List.getLast?_cons_cons] at hl
        have := P_last n _ _ _ _ _ _ _ t hn' h2 (by omega) hd hl ht
        cases l' with
        | nil => simp at this
        | cons y l' => rw [List.getLast?_cons_cons]; exact this
    | true =>
      have hd32 : d + 1 ≤ 32 := by
        rcases Nat.lt_or_ge d 32 with h1 | h1
        · omega
        · exact absurd (.inr ⟨hb, h1⟩) hnest
      have tail : ∀ (pre : List Tok) (u : Tok) (r2 : List Tok) (c1 : Nat) (x : NT) (l' : List NT), u.k ≠ 0 → t0 :: ts = pre ++ u :: r2 → r2.length ≤ n → c1 ≤ 4096 → P r2 op ie d c1 = .ok (l', [], c') → (x :: l').getLast? = some (nd t false [] []) := by
        intro pre u r2 c1 x l' hu he hr hc1 h3
        rw [he, List.getLast?_append] at hl
        cases r2 with
        | nil => simp at hl; subst hl; exact absurd ht hu
        | cons y r2 =>
          rw [List.getLast?_cons_cons] at hl
          have e : (y :: r2).getLast? = some t := by
            cases hz : (y :: r2).getLast? with
            | none => simp at hz
            | some z => rw [hz] at hl; simpa using hl
          have := P_last n _ _ _ _ _ _ _ t hr h3 hc1 hd e ht
          cases l' with
          | nil => simp at this
          | cons y l' => rw [List.getLast?_cons_cons]; exact this
      rw [P_step_block hnest (by omega) hb] at h
      cases hp : P ts t0.k false (d + 1) (c + 1) with
      | error e => rw [hp] at h; cases h
      | ok x =>
        obtain ⟨b, r1, c1⟩ := x
        rw [hp] at h
        have hl1 := P_rest hp
        have hg1 := P_good hp (by omega) hd32
        obtain ⟨u1, hu1⟩ := P_suffix hp (by omega) hd32
        cases r1 with
        | nil => cases h
        | cons u r2 =>
          simp only [List.length_cons] at hl1
          dsimp only at h
          by_cases hu : u.k = 7
          · rw [if_pos hu] at h
            cases hp2 : P r2 t0.k true (d + 1) c1 with
            | error e => rw [hp2] at h; cases h
            | ok x =>
              obtain ⟨b2, r3, c2⟩ := x
              rw [hp2] at h
              have hl2 := P_rest hp2
              have hg2 := P_good hp2 hg1.2.1 hd32
              obtain ⟨u2, hu2⟩ := P_suffix hp2 hg1.2.1 hd32
              cases r3 with
              | nil => cases h
              | cons v r4 =>
                simp only [List.length_cons] at hl2
                dsimp only at h
                obtain ⟨l', rfl, h3⟩ := cons_ok h
                have hv : v.k ≠ 0 := by rcases P_stop hp2 with ⟨h1, _⟩ | ⟨h1, _⟩ <;> omega
                exact tail (t0 :: (u1 ++ u :: u2)) v r4 c2 _ l' hv (by rw [hu1, hu2]; simp) (by omega) hg2.2.1 h3
          · rw [if_neg hu] at h
            obtain ⟨l', rfl, h3⟩ := cons_ok h
            have hv : u.k ≠ 0 := by rcases P_stop hp with ⟨h1, _⟩ | ⟨h1, _⟩ <;> omega
            exact tail (t0 :: u1) u r2 c1 _ l' hv (by rw [hu1]; simp) (by omega) hg1.2.1 h3
theorem lx_last {l : List UInt8} {a : Nat} {ts : List Tok} (h : Lx l a ts) : ∀ {t : Tok}, ts.getLast? = some t → t.k ≠ 0 → l.getLast? = some 125 := by
  have hdrop : ∀ (l : List UInt8) (n : Nat), (l.drop n).getLast? = some 125 → l.getLast? = some 125 := by
    intro l n h
    rw [List.getLast?_drop] at h
    split at h
    · cases h
    · exact h
  induction h with
  | nil a => intro t ht; simp at ht
  | all l a hl hf => intro t ht hk; simp at ht; subst ht; exact absurd rfl hk
  | text l a k ts hf hx ih =>
    intro t ht hk
    cases ts with
    | nil => simp at ht; subst ht; exact absurd rfl hk
    | cons x ts => rw [List.getLast?_cons_cons] at ht; exact hdrop _ _ (ih ht hk)
  | dir l a e t0 ts hf hc hd hx ih =>
    intro t ht hk
    cases ts with
    | nil =>
      have h0 := (lx_empty hx).1 rfl
      have hlen := congrArg List.length h0
      simp at hlen
      have he := (find2_some.1 hc).1.2
      rw [List.getElem?_drop] at he
      have hlt := (List.getElem?_eq_some_iff.1 he).1
      rw [List.getLast?_eq_getElem?, ← he]
      congr 1
      omega
    | cons x ts => rw [List.getLast?_cons_cons] at ht; exact hdrop _ _ (ih ht hk)
/-- Two templates, of which the first does not end with a text. -/
theorem parse_two {a b : ByteArray} {ts us : List Tok} {x y : List NT} {c1 c2 : Nat} {z : NT} (ha : Lx (toL a) 0 ts) (hb : Lx (toL b) 0 us) (hx : P ts 0 false 0 0 = .ok (x, [], c1)) (hy : P us 0 false 0 0 = .ok (y, [], c2)) (hz : x.getLast? = some z) (hk : z.k ≠ 0) (hc : c1 + c2 ≤ 4096) :
    ∃ vs y2, Lx (toL a ++ toL b) 0 vs ∧ P vs 0 false 0 0 = .ok (x ++ y2, [], c1 + c2) ∧ strips y2 = strips y := by
  obtain ⟨t, ht⟩ : ∃ t, ts.getLast? = some t := by
    cases h : ts.getLast? with
    | some t => exact ⟨t, rfl⟩
    | none =>
      rw [List.getLast?_eq_none_iff] at h
      subst h
      rw [P_nil] at hx
      simp at hx; obtain ⟨rfl, _⟩ := hx
      simp at hz
  have htk : t.k ≠ 0 := by
    intro h0
    have := P_last ts.length ts _ _ _ _ _ _ t (Nat.le_refl _) hx (by decide) (by decide) ht h0
    rw [hz] at this
    injection this with this
    subst this
    exact hk (by rw [nd_k, h0]; rfl)
  have hl := lx_last ha ht htk
  have hm : mergeT ts (us.map (shift a.size)) = ts ++ us.map (shift a.size) := by
    unfold mergeT
    rw [ht]
    split
    · rename_i q t' m' h1 h2
      injection h1 with h1
      subst h1
      rw [if_neg (fun h => htk h.1), h2]
    · rfl
  have h1 := lx_append ha (by rw [hl]; decide) (lx_shift hb (toL a).length)
  rw [toL_len, hm] at h1
  obtain ⟨y2, g1, g2⟩ := P_shift us.length us _ _ _ _ _ _ _ (Nat.le_refl _) hy (by decide) (by decide) a.size c1 (by omega)
  refine ⟨_, y2, h1, ?_, g2⟩
  rw [P_append ts.length ts _ _ _ _ _ _ _ (Nat.le_refl _) hx, if_pos rfl]
  rw [Nat.zero_add] at g1
  rw [g1]
  simp [PR.pre, Nat.add_comm]

/-! ### Nested blocks -/
theorem ne_ {a b : Nat} (h : Nat.beq a b = false) : a ≠ b := Nat.ne_of_beq_eq_false h
def opL (w : Bool) : List UInt8 := if w then [123, 123, 114, 97, 110, 103, 101, 32, 46, 97, 125, 125] else [123, 123, 105, 102, 32, 46, 97, 125, 125]
def opN (w : Bool) : Nat := if w then 12 else 9
def enL : List UInt8 := [123, 123, 101, 110, 100, 125, 125]
def rp (l : List UInt8) : Nat → List UInt8 | 0 => [] | k + 1 => l ++ rp l k
def opT (w : Bool) (a : Nat) : Tok := ⟨if w then 3 else 2, a, [], [97], true⟩
def enT (a : Nat) : Tok := ⟨8, a, [], [], false⟩
def opTs (w : Bool) (a : Nat) : Nat → List Tok | 0 => [] | k + 1 => opT w a :: opTs w (a + opN w) k
def enTs (a : Nat) : Nat → List Tok | 0 => [] | k + 1 => enT a :: enTs (a + 7) k
theorem enTs_snoc : ∀ (k a : Nat), enTs a (k + 1) = enTs a k ++ [enT (a + 7 * k)]
  | 0, a => rfl
  | k + 1, a => by rw [enTs, enTs_snoc k (a + 7), enTs, List.cons_append, show a + 7 + 7 * k = a + 7 * (k + 1) by omega]
theorem lx_open {w : Bool} {r : List UInt8} {a : Nat} {ts : List Tok} (h : Lx r (a + opN w) ts) : Lx (opL w ++ r) a (opT w a :: ts) := by
  cases w with
  | false => exact Lx.dir (opL false ++ r) a 5 ⟨2, 0, [], [97], true⟩ ts rfl rfl rfl h
  | true => exact Lx.dir (opL true ++ r) a 8 ⟨3, 0, [], [97], true⟩ ts rfl rfl rfl h
theorem lx_end {r : List UInt8} {a : Nat} {ts : List Tok} (h : Lx r (a + 7) ts) : Lx (enL ++ r) a (enT a :: ts) := Lx.dir (enL ++ r) a 3 ⟨8, 0, [], [], false⟩ ts rfl rfl rfl h
theorem lx_ends : ∀ (k a : Nat), Lx (rp enL k) a (enTs a k)
  | 0, a => Lx.nil a
  | k + 1, a => lx_end (lx_ends k (a + 7))
theorem lx_x (k a : Nat) : Lx (120 :: rp enL k) a (text a [120] :: enTs (a + 1) k) := by
  cases k with
  | zero => exact Lx.all [120] a (by simp) rfl
  | succ k => exact Lx.text (120 :: rp enL (k + 1)) a 0 (enTs (a + 1) (k + 1)) rfl (lx_ends (k + 1) (a + 1))
theorem lx_opens {w : Bool} {r : List UInt8} {ts : List Tok} : ∀ (k a : Nat), Lx r (a + opN w * k) ts → Lx (rp (opL w) k ++ r) a (opTs w a k ++ ts)
  | 0, a, h => h
  | k + 1, a, h => by
    rw [rp, List.append_assoc, opTs, List.cons_append]
    exact lx_open (lx_opens k (a + opN w) (by rw [show a + opN w + opN w * k = a + opN w * (k + 1) by rw [Nat.mul_add]; omega]; exact h))
theorem lx_nested (w : Bool) (k : Nat) : Lx (rp (opL w) k ++ 120 :: rp enL k) 0 (opTs w 0 k ++ text (opN w * k) [120] :: enTs (opN w * k + 1) k) := lx_opens k 0 (by rw [Nat.zero_add]; exact lx_x k _)
theorem opT_blk (w : Bool) (a : Nat) : blk (opT w a).k = true := by cases w <;> rfl
theorem opT_six (w : Bool) (a d : Nat) (hd : d < 32) : ¬ ((opT w a).k = 6 ∧ 0 < d ∨ blk (opT w a).k = true ∧ 32 ≤ d) := by
  rintro (⟨h, _⟩ | ⟨_, h⟩)
  · cases w <;> cases h
  · omega
/-- k blocks, one within the other, around a text. -/
def nestN (w : Bool) (b : Nat) : Nat → Nat → NT
  | 0, _ => nd (text b [120]) false [] []
  | k + 1, a => nd (opT w a) false [nestN w b k (a + opN w)] []
theorem P_nested (w : Bool) (b : Nat) : ∀ (k a e : Nat) (rest : List Tok) (op : Nat) (ie : Bool) (d c : Nat), d + k ≤ 32 → c + k + 1 ≤ 4096 →
    P (opTs w a k ++ text b [120] :: (enTs e k ++ rest)) op ie d c = (P rest op ie d (c + k + 1)).cons (nestN w b k a)
  | 0, a, e, rest, op, ie, d, c, hd, hc => P_leaf (ne_ rfl) (ne_ rfl) (by omega) rfl
  | k + 1, a, e, rest, op, ie, d, c, hd, hc => by
    rw [opTs, List.cons_append, enTs_snoc, List.append_assoc]
    have ih := P_nested w b k (a + opN w) e ([enT (e + 7 * k)] ++ rest) (opT w a).k false (d + 1) (c + 1) (by omega) (by omega)
    have he : P ([enT (e + 7 * k)] ++ rest) (opT w a).k false (d + 1) (c + 1 + k + 1) = .ok ([], enT (e + 7 * k) :: rest, c + 1 + k + 1) := by
      rw [List.singleton_append, P_end rfl, if_neg (by cases w <;> exact ne_ rfl)]
    rw [he] at ih
    rw [P_body_end (opT_six w a d (by omega)) (by omega) (opT_blk w a) ih (ne_ rfl), show c + 1 + k + 1 = c + (k + 1) + 1 by omega]
    rfl
theorem nestN_nst (w : Bool) (b : Nat) : ∀ (k a : Nat), (nestN w b k a).nst = k
  | 0, a => by rw [nestN, nd_nst]; rfl
  | k + 1, a => by
    rw [nestN, nd_nst, opT_blk, if_pos rfl, nsts_cons, nsts_nil, nestN_nst w b k (a + opN w)]
    split <;> omega
theorem nestN_cnt (w : Bool) (b : Nat) : ∀ (k a : Nat), (nestN w b k a).cnt = k + 1
  | 0, a => by rw [nestN, nd_cnt]; rfl
  | k + 1, a => by
    rw [nestN, nd_cnt, opT_blk, if_pos rfl, cnts_cons, cnts_nil, nestN_cnt w b k (a + opN w)]
    split <;> omega
theorem parse_nested (w : Bool) (k : Nat) (hk : k ≤ 32) : P (opTs w 0 k ++ text (opN w * k) [120] :: enTs (opN w * k + 1) k) 0 false 0 0 = .ok ([nestN w (opN w * k) k 0], [], k + 1) := by
  have := P_nested w (opN w * k) k 0 (opN w * k + 1) [] 0 false 0 0 (by omega) (by omega)
  rw [List.append_nil, P_nil] at this
  rw [this, Nat.zero_add]
  rfl
/-- One more is one too many. -/
theorem P_deep (w : Bool) : ∀ (k a : Nat) (rest : List Tok) (op : Nat) (ie : Bool) (d c : Nat), d ≤ 32 → 32 < d + k → c + (32 - d) < 4096 → P (opTs w a k ++ rest) op ie d c = .error (a + opN w * (32 - d), 13)
  | 0, a, rest, op, ie, d, c, hd, hk, hc => by omega
  | k + 1, a, rest, op, ie, d, c, hd, hk, hc => by
    rw [opTs, List.cons_append]
    by_cases h : d = 32
    · subst h
      rw [P_nest (by cases w <;> exact ne_ rfl) (by cases w <;> exact ne_ rfl) (.inr ⟨opT_blk w a, Nat.le_refl _⟩)]
      rfl
    · have ih := P_deep w k (a + opN w) rest (opT w a).k false (d + 1) (c + 1) (by omega) (by omega) (by omega)
      rw [P_body_err (opT_six w a d (by omega)) (by omega) (opT_blk w a) ih, show 32 - d = 32 - (d + 1) + 1 by omega, Nat.mul_add]
      congr 2
      omega
/-- Blocks that nothing closes. -/
theorem P_unclosed (w : Bool) : ∀ (k a : Nat) (op : Nat) (ie : Bool) (d c : Nat), d + k + 1 ≤ 32 → c + k < 4096 → P (opTs w a (k + 1)) op ie d c = .error (a + opN w * k, 7)
  | 0, a, op, ie, d, c, hd, hc => by
    rw [opTs]
    exact P_body_open (opT_six w a d (by omega)) (by omega) (opT_blk w a) rfl
  | k + 1, a, op, ie, d, c, hd, hc => by
    rw [opTs]
    have ih := P_unclosed w k (a + opN w) (opT w a).k false (d + 1) (c + 1) (by omega) (by omega)
    rw [P_body_err (opT_six w a d (by omega)) (by omega) (opT_blk w a) ih, Nat.mul_add]
    congr 2
    omega
theorem lx_unclosed (w : Bool) (k : Nat) : Lx (rp (opL w) k) 0 (opTs w 0 k) := by
  have := lx_opens (w := w) (r := []) (ts := []) k 0 (Lx.nil _)
  rwa [List.append_nil, List.append_nil] at this
/-- A definition within a block. -/
def dfL : List UInt8 := [123, 123, 100, 101, 102, 105, 110, 101, 32, 102, 125, 125, 123, 123, 101, 110, 100, 125, 125, 123, 123, 101, 110, 100, 125, 125]
theorem lx_define (w : Bool) : Lx (opL w ++ dfL) 0 [opT w 0, ⟨6, opN w, [102], [], false⟩, enT (opN w + 12), enT (opN w + 19)] := by
  refine lx_open ?_
  rw [Nat.zero_add]
  exact Lx.dir dfL (opN w) 8 ⟨6, 0, [102], [], false⟩ _ rfl rfl rfl (lx_end (lx_end (Lx.nil _)))
theorem P_define (w : Bool) : P [opT w 0, ⟨6, opN w, [102], [], false⟩, enT (opN w + 12), enT (opN w + 19)] 0 false 0 0 = .error (opN w, 13) :=
  P_body_err (opT_six w 0 0 (by decide)) (by decide) (opT_blk w 0) (P_nest (ne_ rfl) (ne_ rfl) (.inl ⟨rfl, by decide⟩))

/-! ### Many nodes -/
def flL : List UInt8 := [123, 123, 102, 108, 117, 115, 104, 125, 125]
def flT (a : Nat) : Tok := ⟨5, a, [], [], false⟩
def flTs (a : Nat) : Nat → List Tok | 0 => [] | k + 1 => flT a :: flTs (a + 9) k
theorem lx_flushes : ∀ (k a : Nat), Lx (rp flL k) a (flTs a k)
  | 0, a => Lx.nil a
  | k + 1, a => Lx.dir (flL ++ rp flL k) a 5 ⟨5, 0, [], [], false⟩ _ rfl rfl rfl (lx_flushes k (a + 9))
theorem flTs_len : ∀ (k a : Nat), (flTs a k).length = k
  | 0, a => rfl
  | k + 1, a => by rw [flTs, List.length_cons, flTs_len k]
def flNs (a : Nat) : Nat → List NT | 0 => [] | k + 1 => nd (flT a) false [] [] :: flNs (a + 9) k
theorem flNs_len : ∀ (k a : Nat), (flNs a k).length = k
  | 0, a => rfl
  | k + 1, a => by rw [flNs, List.length_cons, flNs_len k]
theorem P_flushes : ∀ (k a : Nat) (op : Nat) (ie : Bool) (d c : Nat), c + k ≤ 4096 → P (flTs a k) op ie d c = .ok (flNs a k, [], c + k)
  | 0, a, op, ie, d, c, hc => rfl
  | k + 1, a, op, ie, d, c, hc => by
    rw [flTs, P_leaf (ne_ rfl) (ne_ rfl) (by omega) rfl, P_flushes k (a + 9) op ie d (c + 1) (by omega), show c + 1 + k = c + (k + 1) by omega]
    rfl
theorem P_toomany : ∀ (k a : Nat) (op : Nat) (ie : Bool) (d c : Nat), c ≤ 4096 → 4096 < c + k → P (flTs a k) op ie d c = .error (a + 9 * (4096 - c), 14)
  | 0, a, op, ie, d, c, hc, h => by omega
  | k + 1, a, op, ie, d, c, hc, h => by
    rw [flTs]
    by_cases h1 : c = 4096
    · subst h1
      rw [P_many (ne_ rfl) (ne_ rfl) (by rintro (⟨h, _⟩ | ⟨h, _⟩) <;> cases h) (Nat.le_refl _)]
      rfl
    · rw [P_leaf (ne_ rfl) (ne_ rfl) (by omega) rfl, P_toomany k (a + 9) op ie d (c + 1) (by omega) (by omega), show 4096 - c = 4096 - (c + 1) + 1 by omega, Nat.mul_add]
      simp [PR.cons]
      omega
theorem rp_len (l : List UInt8) : ∀ k, (rp l k).length = l.length * k
  | 0 => rfl
  | k + 1 => by rw [rp, List.length_append, rp_len l k, Nat.mul_add]; omega
end Go.Proofs.Yteclclidibmajaa

namespace Go.Proofs.Yteclclidibmajaa
set_option linter.unusedVariables false
set_option linter.unusedSimpArgs false
namespace NT
mutual
def tot : NT → Nat | mk _ _ _ _ _ _ _ _ b _ _ l => 1 + tots b + tots l
def tots : List NT → Nat | [] => 0 | x :: r => tot x + tots r
end
theorem tot_eq (t : NT) : t.tot = 1 + tots t.b + tots t.l := by cases t; rw [tot]; rfl
theorem tots_nil : tots [] = 0 := by simp [tots]
theorem tots_cons (x : NT) (r : List NT) : tots (x :: r) = tot x + tots r := by simp [tots]
theorem tots_append : ∀ l m : List NT, tots (l ++ m) = tots l + tots m
  | [], m => by simp [tots_nil]
  | x :: l, m => by rw [List.cons_append, tots_cons, tots_cons, tots_append l m]; omega
theorem cnts_le_of : ∀ l : List NT, (∀ x, x ∈ l → x.cnt ≤ x.tot) → cnts l ≤ tots l
  | [], _ => by simp [cnts_nil]
  | x :: l, h => by rw [cnts_cons, tots_cons]; have := h x (by simp); have := cnts_le_of l fun y hy => h y (by simp [hy]); omega
theorem cnt_le (t : NT) : t.cnt ≤ t.tot := by
  refine ind (M := fun t => t.cnt ≤ t.tot) (fun t h1 h2 => ?_) t
  have := cnts_le_of _ h1
  have := cnts_le_of _ h2
  rw [cnt_eq, tot_eq]
  split <;> split <;> omega
theorem cnts_le (l : List NT) : cnts l ≤ tots l := cnts_le_of l fun x _ => cnt_le x
theorem nsts_le_of : ∀ l : List NT, (∀ x, x ∈ l → x.nst ≤ x.tot) → nsts l ≤ tots l
  | [], _ => by simp [nsts_nil]
  | x :: l, h => by rw [nsts_cons, tots_cons]; have := h x (by simp); have := nsts_le_of l fun y hy => h y (by simp [hy]); omega
theorem nst_le (t : NT) : t.nst ≤ t.tot := by
  refine ind (M := fun t => t.nst ≤ t.tot) (fun t h1 h2 => ?_) t
  have := nsts_le_of _ h1
  have := nsts_le_of _ h2
  rw [nst_eq, tot_eq]
  split
  · split <;> omega
  · omega
theorem nsts_le (l : List NT) : nsts l ≤ tots l := nsts_le_of l fun x _ => nst_le x
theorem tots_mem : ∀ {l : List NT} {x : NT}, x ∈ l → x.tot ≤ tots l
  | y :: l, x, h => by
    rw [tots_cons]
    rcases List.mem_cons.1 h with rfl | h
    · omega
    · have := tots_mem h; omega
theorem cnts_take (l : List NT) (i : Nat) : cnts (l.take i) ≤ cnts l := by
  conv => rhs; rw [← List.take_append_drop i l, cnts_append]
  omega
theorem nsts_take (l : List NT) (i : Nat) : nsts (l.take i) ≤ nsts l := by
  conv => rhs; rw [← List.take_append_drop i l, nsts_append]
  omega
theorem take_step {l : List NT} {i : Nat} {x : NT} (h : l[i]? = some x) : l.take (i + 1) = l.take i ++ [x] := by
  obtain ⟨hi, e⟩ := List.getElem?_eq_some_iff.1 h
  rw [List.take_succ_eq_append_getElem hi, e]
theorem cnts_step {l : List NT} {i : Nat} {x : NT} (h : l[i]? = some x) : cnts (l.take (i + 1)) = cnts (l.take i) + x.cnt := by rw [take_step h, cnts_append, cnts_cons, cnts_nil]; omega
theorem nsts_step {l : List NT} {i : Nat} {x : NT} (h : l[i]? = some x) : nsts (l.take (i + 1)) = max (nsts (l.take i)) x.nst := by rw [take_step h, nsts_append, nsts_cons, nsts_nil]; omega
theorem tots_step {l : List NT} {i : Nat} {x : NT} (h : l[i]? = some x) : tots (l.take (i + 1)) = tots (l.take i) + x.tot := by rw [take_step h, tots_append, tots_cons, tots_nil]; omega

/-! ### Offsets one behind the other -/
def Asc (l : List Int) : Prop := l.Pairwise (· < ·)
theorem asc_skip : ∀ {m r : List Int} {a : Int}, Asc (a :: (m ++ r)) → Asc (m.getLastD a :: r)
  | [], r, a, h => h
  | b :: m, r, a, h => by
    have h2 : Asc (b :: (m ++ r)) := (List.pairwise_cons.1 h).2
    have := asc_skip h2
    rw [List.getLastD_cons]
    exact this
theorem asc_first {m r : List Int} {a : Int} (h : Asc (a :: (m ++ r))) : Asc (a :: m) := by
  refine List.Pairwise.sublist ?_ h
  exact List.Sublist.cons_cons _ (List.sublist_append_left _ _)
theorem asc_tail {b a : Int} {r : List Int} (h : Asc (a :: b :: r)) : a < b ∧ Asc (b :: r) := ⟨(List.pairwise_cons.1 h).1 b (by simp), (List.pairwise_cons.1 h).2⟩
theorem getLastD_append (m r : List Int) (a : Int) : (m ++ r).getLastD a = r.getLastD (m.getLastD a) := by
  induction m generalizing a with
  | nil => rfl
  | cons b m ih => rw [List.cons_append, List.getLastD_cons, List.getLastD_cons, ih]
theorem getLastD_mem : ∀ (m : List Int) (a : Int), m.getLastD a = a ∨ m.getLastD a ∈ m
  | [], a => .inl rfl
  | b :: m, a => by
    rw [List.getLastD_cons]
    rcases getLastD_mem m b with h | h
    · rw [h]; exact .inr (by simp)
    · exact .inr (List.mem_cons_of_mem _ h)
theorem pres_drop {l : List NT} {i : Nat} {x : NT} (h : l[i]? = some x) : pres (l.drop i) = x.a :: (pres x.b ++ (pres x.l ++ pres (l.drop (i + 1)))) := by
  obtain ⟨hi, e⟩ := List.getElem?_eq_some_iff.1 h
  rw [List.drop_eq_getElem_cons hi, e, pres_cons, pre_eq]
  simp

/-! ### Equal up to addresses, or up to addresses and offsets -/
def key (at_ : Bool) (t : NT) : NT := if at_ then t.er else t.strip
def keys (at_ : Bool) (l : List NT) : List NT := l.map (key at_)
theorem keys_true (l : List NT) : keys true l = ers l := by rw [ers_map]; rfl
theorem keys_false (l : List NT) : keys false l = strips l := by rw [strips_map]; rfl
theorem key_mk (at_ : Bool) (t : NT) : key at_ t = mk t.k (if at_ then t.a else 0) t.s t.p t.h t.e none 0 (keys at_ t.b) none 0 (keys at_ t.l) := by
  cases at_ with
  | true => rw [keys_true, keys_true]; exact er_mk t
  | false => rw [keys_false, keys_false]; exact strip_mk t
theorem key_eq {at_ : Bool} {t u : NT} (h : key at_ t = key at_ u) : t.k = u.k ∧ (at_ = true → t.a = u.a) ∧ t.s = u.s ∧ t.p = u.p ∧ t.h = u.h ∧ t.e = u.e ∧ keys at_ t.b = keys at_ u.b ∧ keys at_ t.l = keys at_ u.l := by
  rw [key_mk, key_mk] at h
  injection h with h0 h1 h2 h3 h4 h5 _ _ h6 _ _ h7
  refine ⟨h0, fun h => ?_, h2, h3, h4, h5, h6, h7⟩
  subst h; exact h1
theorem keys_len {at_ : Bool} {l m : List NT} (h : keys at_ l = keys at_ m) : l.length = m.length := by
  have := congrArg List.length h
  simpa [keys] using this
theorem keys_at {at_ : Bool} {l m : List NT} (h : keys at_ l = keys at_ m) {i : Nat} {x y : NT} (hx : l[i]? = some x) (hy : m[i]? = some y) : key at_ x = key at_ y := by
  have e : (keys at_ l)[i]? = (keys at_ m)[i]? := by rw [h]
  unfold keys at e
  rw [List.getElem?_map, List.getElem?_map, hx, hy] at e
  simpa using e
end NT
open NT
theorem lx_asc {l : List UInt8} {a : Nat} {ts : List Tok} (h : Lx l a ts) : Asc (ts.map fun t => (t.a : Int)) ∧ ∀ t ∈ ts, a ≤ t.a ∧ t.a < a + l.length := by
  induction h with
  | nil a => exact ⟨List.Pairwise.nil, by simp⟩
  | all l a hl hf =>
    have : 0 < l.length := List.length_pos_iff.2 hl
    refine ⟨by simp [Asc], fun t ht => ?_⟩
    simp at ht; subst ht; exact ⟨Nat.le_refl _, by simp [text]; omega⟩
  | text l a k ts hf _ ih =>
    have hk := find2_lt hf
    obtain ⟨h1, h2⟩ := ih
    rw [List.length_drop] at h2
    refine ⟨?_, fun t ht => ?_⟩
    · rw [List.map_cons]
      refine List.pairwise_cons.2 ⟨fun z hz => ?_, h1⟩
      obtain ⟨t, ht, rfl⟩ := List.mem_map.1 hz
      have := (h2 t ht).1
      simp [text]; omega
    · rcases List.mem_cons.1 ht with rfl | ht
      · exact ⟨Nat.le_refl _, by simp [text]; omega⟩
      · have := h2 t ht; omega
  | dir l a e t ts hf hc hd _ ih =>
    have hk := find2_lt hf
    have he := find2_lt hc
    rw [List.length_drop] at he
    obtain ⟨h1, h2⟩ := ih
    rw [List.length_drop] at h2
    refine ⟨?_, fun u hu => ?_⟩
    · rw [List.map_cons]
      refine List.pairwise_cons.2 ⟨fun z hz => ?_, h1⟩
      obtain ⟨u, hu, rfl⟩ := List.mem_map.1 hz
      have := (h2 u hu).1
      dsimp only; omega
    · rcases List.mem_cons.1 hu with rfl | hu
      · exact ⟨Nat.le_refl _, by dsimp only; omega⟩
      · have := h2 u hu; omega
end Go.Proofs.Yteclclidibmajaa

namespace Go.Proofs.Yteclclidibmajaa
set_option linter.unusedVariables false
theorem cons_err {x : NT} {r : PR} {e : Nat × Nat} (h : r.cons x = .error e) : r = .error e := by
  unfold PR.cons at h
  split at h
  · exact h
  · cases h
theorem pl_code : ∀ (f : Nat) (ts : List Tok) (op : Nat) (ie : Bool) (d c a k : Nat), ts.length < f → pl f ts op ie d c = .error (a, k) → k = 7 ∨ k = 13 ∨ k = 14
  | 0, _, _, _, _, _, _, _, hf, _ => absurd hf (Nat.not_lt_zero _)
  | f + 1, [], op, ie, d, c, a, k, hf, h => by simp [pl] at h
  | f + 1, t :: ts, op, ie, d, c, a, k, hf, h => by
    have hf' : ts.length < f := by simpa using hf
    unfold pl at h
    split at h
    · split at h
      · cases h
      · injection h with h; injection h with _ h; exact .inr (.inl h.symm)
    split at h
    · split at h
      · injection h with h; injection h with _ h; exact .inr (.inl h.symm)
      · cases h
    split at h
    · injection h with h; injection h with _ h; exact .inr (.inl h.symm)
    split at h
    · injection h with h; injection h with _ h; exact .inr (.inr h.symm)
    split at h
    · exact pl_code f ts _ _ _ _ _ _ hf' (cons_err h)
    split at h
    · rename_i e he
      injection h with h; subst h
      exact pl_code f ts _ _ _ _ _ _ hf' he
    rename_i b r1 c1 hb
    have h1 := pl_rest f _ _ _ _ _ _ _ _ hb
    split at h
    · injection h with h; injection h with _ h; exact .inl h.symm
    rename_i u r2
    simp only [List.length_cons] at h1
    split at h
    · split at h
      · rename_i e he
        injection h with h; subst h
        exact pl_code f r2 _ _ _ _ _ _ (by omega) he
      rename_i b2 r3 c2 hb2
      have h2 := pl_rest f _ _ _ _ _ _ _ _ hb2
      split at h
      · injection h with h; injection h with _ h; exact .inl h.symm
      rename_i v r4
      simp only [List.length_cons] at h2
      exact pl_code f r4 _ _ _ _ _ _ (by omega) (cons_err h)
    · exact pl_code f r2 _ _ _ _ _ _ (by omega) (cons_err h)
theorem P_code {ts : List Tok} {op : Nat} {ie : Bool} {d c a k : Nat} (h : P ts op ie d c = .error (a, k)) : k ≠ 0 := by
  rcases pl_code _ _ _ _ _ _ _ _ (Nat.lt_succ_self _) h with h | h | h <;> omega
theorem pl_suf : ∀ (f : Nat) (ts : List Tok) (op : Nat) (ie : Bool) (d c : Nat) (l : List NT) (r : List Tok) (c' : Nat), pl f ts op ie d c = .ok (l, r, c') → ∃ u, ts = u ++ r
  | 0, _, _, _, _, _, _, _, _, h => by cases h
  | f + 1, [], op, ie, d, c, l, r, c', h => by simp [pl] at h; obtain ⟨_, rfl, _⟩ := h; exact ⟨[], rfl⟩
  | f + 1, t :: ts, op, ie, d, c, l, r, c', h => by
    unfold pl at h
    split at h
    · split at h
      · simp at h; obtain ⟨_, rfl, _⟩ := h; exact ⟨[], rfl⟩
      · cases h
    split at h
    · split at h
      · cases h
      · simp at h; obtain ⟨_, rfl, _⟩ := h; exact ⟨[], rfl⟩
    split at h
    · cases h
    split at h
    · cases h
    split at h
    · obtain ⟨l', _, h2⟩ := cons_ok h
      obtain ⟨u, hu⟩ := pl_suf f ts _ _ _ _ _ _ _ h2
      exact ⟨t :: u, by rw [hu]; rfl⟩
    split at h
    · cases h
    rename_i b r1 c1 hb
    obtain ⟨u1, h1⟩ := pl_suf f _ _ _ _ _ _ _ _ hb
    split at h
    · cases h
    rename_i v r2
    split at h
    · split at h
      · cases h
      rename_i b2 r3 c2 hb2
      obtain ⟨u2, h2⟩ := pl_suf f _ _ _ _ _ _ _ _ hb2
      split at h
      · cases h
      rename_i x r4
      obtain ⟨l', _, h3⟩ := cons_ok h
      obtain ⟨u3, h4⟩ := pl_suf f _ _ _ _ _ _ _ _ h3
      exact ⟨t :: (u1 ++ v :: (u2 ++ x :: u3)), by rw [h1, h2, h4]; simp⟩
    · obtain ⟨l', _, h3⟩ := cons_ok h
      obtain ⟨u3, h4⟩ := pl_suf f _ _ _ _ _ _ _ _ h3
      exact ⟨t :: (u1 ++ v :: u3), by rw [h1, h4]; simp⟩
theorem pl_where : ∀ (f : Nat) (ts : List Tok) (op : Nat) (ie : Bool) (d c a k : Nat), ts.length < f → pl f ts op ie d c = .error (a, k) → ∃ t, t ∈ ts ∧ a = t.a
  | 0, _, _, _, _, _, _, _, hf, _ => absurd hf (Nat.not_lt_zero _)
  | f + 1, [], op, ie, d, c, a, k, hf, h => by simp [pl] at h
  | f + 1, t :: ts, op, ie, d, c, a, k, hf, h => by
    have hf' : ts.length < f := by simpa using hf
    have here : ∀ {k' : Nat}, (Except.error (t.a, k') : PR) = .error (a, k) → ∃ u, u ∈ t :: ts ∧ a = u.a := by
      intro k' h; injection h with h; injection h with h _; exact ⟨t, by simp, h.symm⟩
    have up : ∀ {r : List Tok}, (∀ u, u ∈ r → u ∈ ts) → (∃ u, u ∈ r ∧ a = u.a) → ∃ u, u ∈ t :: ts ∧ a = u.a := by
      rintro r h1 ⟨u, h2, h3⟩; exact ⟨u, List.mem_cons_of_mem _ (h1 u h2), h3⟩
    unfold pl at h
    split at h
    · split at h
      · cases h
      · exact here h
    split at h
    · split at h
      · exact here h
      · cases h
    split at h
    · exact here h
    split at h
    · exact here h
    split at h
    · exact up (fun _ hu => hu) (pl_where f ts _ _ _ _ _ _ hf' (cons_err h))
    split at h
    · rename_i e he
      injection h with h; subst h
      exact up (fun _ hu => hu) (pl_where f ts _ _ _ _ _ _ hf' he)
    rename_i b r1 c1 hb
    have h1 := pl_rest f _ _ _ _ _ _ _ _ hb
    obtain ⟨u1, hu1⟩ := pl_suf f _ _ _ _ _ _ _ _ hb
    split at h
    · exact here h
    rename_i v r2
    simp only [List.length_cons] at h1
    have m2 : ∀ u, u ∈ r2 → u ∈ ts := fun u hu => by rw [hu1]; simp [hu]
    split at h
    · split at h
      · rename_i e he
        injection h with h; subst h
        exact up m2 (pl_where f r2 _ _ _ _ _ _ (by omega) he)
      rename_i b2 r3 c2 hb2
      have h2 := pl_rest f _ _ _ _ _ _ _ _ hb2
      obtain ⟨u2, hu2⟩ := pl_suf f _ _ _ _ _ _ _ _ hb2
      split at h
      · exact here h
      rename_i x r4
      simp only [List.length_cons] at h2
      exact up (fun u hu => m2 u (by rw [hu2]; simp [hu])) (pl_where f r4 _ _ _ _ _ _ (by omega) (cons_err h))
    · exact up m2 (pl_where f r2 _ _ _ _ _ _ (by omega) (cons_err h))
theorem P_where {ts : List Tok} {op : Nat} {ie : Bool} {d c a k : Nat} (h : P ts op ie d c = .error (a, k)) : ∃ t, t ∈ ts ∧ a = t.a := pl_where _ _ _ _ _ _ _ _ (Nat.lt_succ_self _) h
end Go.Proofs.Yteclclidibmajaa
