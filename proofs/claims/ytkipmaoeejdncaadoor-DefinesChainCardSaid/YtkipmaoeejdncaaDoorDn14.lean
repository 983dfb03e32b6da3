/-
  Definitions and calls of a template, as plain data: names, the first of a name, the checks; the sources of definitions in sequence. No program is imported here.
  Chains of definitions, as plain data: sources, tokens, nodes; what is reachable in them. No program is imported here.
  Names, calls, checks and reach of nodes that differ in their places only. No program is imported here.
  What is collected while definitions are visited, all bodies of one name together: as plain data, whatever the order of the walk. No program is imported here.
-/
import Derived.Test.YtkipmaoeejdncaaDoorNpure
namespace Go.Proofs.YtkipmaoeejdncaaDoor
open NT
set_option linter.unusedVariables false
set_option linter.unusedSimpArgs false

/-! ### Definitions and calls -/
def isDef (t : NT) : Bool := t.k == 6
def defsN (l : List NT) : List NT := l.filter isDef
def mainN (l : List NT) : List NT := l.filter fun t => !isDef t
def namesN (l : List NT) : List ByteArray := (defsN l).map NT.s
mutual
def callN : NT → List NT
  | .mk k a s p h e A c b B d l => (if k = 4 then [.mk k a s p h e A c b B d l] else []) ++ (callNs b ++ callNs l)
def callNs : List NT → List NT
  | [] => []
  | x :: r => callN x ++ callNs r
end
theorem callN_eq (t : NT) : callN t = (if t.k = 4 then [t] else []) ++ (callNs t.b ++ callNs t.l) := by cases t; rw [callN]; rfl
theorem callNs_nil : callNs [] = [] := by simp [callNs]
theorem callNs_cons (x : NT) (r : List NT) : callNs (x :: r) = callN x ++ callNs r := by simp [callNs]
theorem callNs_append : ∀ l m : List NT, callNs (l ++ m) = callNs l ++ callNs m
  | [], m => by simp [callNs_nil]
  | x :: l, m => by rw [List.cons_append, callNs_cons, callNs_cons, callNs_append l m, List.append_assoc]
def isDefOf (n : ByteArray) (t : NT) : Bool := t.k == 6 && decide (t.s = n)
def findN (l : List NT) (n : ByteArray) : Option NT := l.find? (isDefOf n)
theorem findN_some {l : List NT} {n : ByteArray} {t : NT} (h : findN l n = some t) : t ∈ l ∧ t.k = 6 ∧ t.s = n := by
  have h1 := List.find?_some h
  unfold isDefOf at h1
  rw [Bool.and_eq_true, beq_iff_eq, decide_eq_true_eq] at h1
  exact ⟨List.mem_of_find?_eq_some h, h1.1, h1.2⟩
theorem mem_names {l : List NT} {n : ByteArray} : n ∈ namesN l ↔ ∃ t, t ∈ l ∧ t.k = 6 ∧ t.s = n := by
  unfold namesN defsN isDef
  simp only [List.mem_map, List.mem_filter, beq_iff_eq]
  constructor
  · rintro ⟨t, ⟨h1, h2⟩, h3⟩; exact ⟨t, h1, h2, h3⟩
  · rintro ⟨t, h1, h2, h3⟩; exact ⟨t, ⟨h1, h2⟩, h3⟩
theorem findN_of_mem {l : List NT} {n : ByteArray} (h : n ∈ namesN l) : ∃ t, findN l n = some t := by
  cases hf : findN l n with
  | some t => exact ⟨t, rfl⟩
  | none =>
    obtain ⟨t, h1, h2, h3⟩ := mem_names.1 h
    have := List.find?_eq_none.1 hf t h1
    unfold isDefOf at this
    simp [h2, h3] at this
def hasN (l : List ByteArray) (n : ByteArray) : Bool := l.any fun m => decide (m = n)
theorem hasN_iff {l : List ByteArray} {n : ByteArray} : hasN l n = true ↔ n ∈ l := by
  unfold hasN
  rw [List.any_eq_true]
  constructor
  · rintro ⟨m, hm, h⟩; rw [← of_decide_eq_true h]; exact hm
  · intro h; exact ⟨n, h, by simp⟩
/-- The first definition with a fault: the names before it are seen. -/
def dupN : List ByteArray → List NT → Option (Int × Nat)
  | _, [] => none
  | seen, t :: r => if hasN seen t.s = true then some (t.a, 12) else if seen.length = 64 then some (t.a, 14) else dupN (seen ++ [t.s]) r
def badCall (l : List NT) (t : NT) : Bool := !hasN (namesN l) t.s
/-- What Check answers: the offset, the error's number. -/
def checkN (l : List NT) : Int × Nat :=
  match dupN [] (defsN l) with
  | some r => r
  | none => match (callNs l).find? (badCall l) with
    | some t => (t.a, 11)
    | none => (0, 0)
theorem dupN_none : ∀ (r : List NT) (seen : List ByteArray), dupN seen r = none → seen.Nodup → (seen ++ r.map NT.s).Nodup
  | [], seen, _, hn => by simpa using hn
  | t :: r, seen, h, hn => by
    rw [dupN] at h
    by_cases h1 : hasN seen t.s = true
    · rw [if_pos h1] at h; cases h
    rw [if_neg h1] at h
    split at h
    · cases h
    have hn2 : (seen ++ [t.s]).Nodup := by
      rw [List.nodup_append]
      exact ⟨hn, by simp, by intro a ha b hb; simp at hb; subst hb; intro e; subst e; exact h1 (hasN_iff.2 ha)⟩
    have := dupN_none r _ h hn2
    rw [List.append_assoc] at this
    exact this
theorem dupN_pass : ∀ (r : List NT) (seen : List ByteArray) (q : List NT), (seen ++ r.map NT.s).Nodup → seen.length + r.length ≤ 64 → dupN seen (r ++ q) = dupN (seen ++ r.map NT.s) q
  | [], seen, q, _, _ => by simp
  | t :: r, seen, q, hn, hl => by
    have h1 : ¬ hasN seen t.s = true := fun h => by
      rw [List.nodup_append] at hn
      exact hn.2.2 _ (hasN_iff.1 h) _ (by simp) rfl
    rw [List.cons_append]
    conv => lhs; unfold dupN
    rw [if_neg h1, if_neg (by simp at hl; omega), dupN_pass r (seen ++ [t.s]) q (by rw [List.append_assoc]; exact hn) (by simp at hl ⊢; omega)]
    simp
/-- Check says yes: the names are different, every call has a definition. -/
theorem checkN_ok {l : List NT} {a : Int} (h : checkN l = (a, 0)) : (namesN l).Nodup ∧ ∀ t, t ∈ callNs l → t.s ∈ namesN l := by
  unfold checkN at h
  cases hd : dupN [] (defsN l) with
  | some r =>
    rw [hd] at h
    exfalso
    have key : ∀ (q : List NT) (seen : List ByteArray) (b : Int), dupN seen q ≠ some (b, 0) := by
      intro q
      induction q with
      | nil => intro seen b e; cases e
      | cons t q ih =>
        intro seen b e
        unfold dupN at e
        split at e
        · cases e
        split at e
        · cases e
        exact ih _ _ e
    dsimp only at h
    rw [h] at hd
    exact key _ _ _ hd
  | none =>
    rw [hd] at h
    dsimp only at h
    have hn := dupN_none _ _ hd (by simp)
    rw [List.nil_append] at hn
    refine ⟨hn, fun t ht => ?_⟩
    cases hf : (callNs l).find? (badCall l) with
    | some t' => rw [hf] at h; cases h
    | none =>
      have := List.find?_eq_none.1 hf t ht
      unfold badCall at this
      rw [Bool.not_eq_true, Bool.not_eq_false'] at this
      exact hasN_iff.1 this
theorem checkN_of {l : List NT} (hn : (namesN l).Nodup) (hl : (namesN l).length ≤ 64) (hc : ∀ t, t ∈ callNs l → t.s ∈ namesN l) : checkN l = (0, 0) := by
  have h1 := dupN_pass (defsN l) [] [] (by simpa [namesN] using hn) (by simp [namesN] at hl ⊢; exact hl)
  rw [List.append_nil] at h1
  unfold checkN
  rw [h1]
  dsimp only [dupN]
  have : (callNs l).find? (badCall l) = none := by
    rw [List.find?_eq_none]
    intro t ht
    unfold badCall
    rw [Bool.not_eq_true, Bool.not_eq_false']
    exact hasN_iff.2 (hc t ht)
  rw [this]
theorem checkN_dup {l m : List NT} {t : NT} (hn : (namesN l).Nodup) (hl : (namesN l).length ≤ 64) (hk : t.k = 6) (ht : t.s ∈ namesN l) : checkN (l ++ t :: m) = (t.a, 12) := by
  have h0 : defsN (l ++ t :: m) = defsN l ++ t :: defsN m := by
    unfold defsN isDef
    rw [List.filter_append, List.filter_cons, if_pos (by simpa using hk)]
  unfold checkN
  rw [h0, dupN_pass (defsN l) [] _ (by simpa [namesN] using hn) (by simp [namesN] at hl ⊢; exact hl)]
  rw [List.nil_append, show List.map NT.s (defsN l) = namesN l from rfl]
  unfold dupN
  rw [if_pos (hasN_iff.2 ht)]
theorem checkN_many {l m : List NT} {t : NT} (hn : (namesN l).Nodup) (hl : (namesN l).length = 64) (hk : t.k = 6) (ht : t.s ∉ namesN l) : checkN (l ++ t :: m) = (t.a, 14) := by
  have h0 : defsN (l ++ t :: m) = defsN l ++ t :: defsN m := by
    unfold defsN isDef
    rw [List.filter_append, List.filter_cons, if_pos (by simpa using hk)]
  unfold checkN
  rw [h0, dupN_pass (defsN l) [] _ (by simpa [namesN] using hn) (by simp [namesN] at hl ⊢; omega)]
  rw [List.nil_append, show List.map NT.s (defsN l) = namesN l from rfl]
  unfold dupN
  rw [if_neg (fun h => ht (hasN_iff.1 h)), if_pos hl]

/-! ### What is reachable -/
/-- A name that is called by a main node, or in the body of the first definition of such a name; it has a definition. -/
inductive Rch (l : List NT) : ByteArray → Prop
  | main (c : NT) (h1 : c ∈ callNs (mainN l)) (h2 : c.s ∈ namesN l) : Rch l c.s
  | step (n : ByteArray) (d c : NT) (h0 : Rch l n) (h1 : findN l n = some d) (h2 : c ∈ callNs d.b) (h3 : c.s ∈ namesN l) : Rch l c.s
theorem Rch.names {l : List NT} {n : ByteArray} (h : Rch l n) : n ∈ namesN l := by cases h <;> assumption

/-! ### Sources of definitions -/
def nmB (i : Nat) : List UInt8 := 102 :: (if i < 10 then [48 + i.toUInt8] else [48 + (i / 10).toUInt8, 48 + (i % 10).toUInt8])
/-- A directive: where it ends, which token. -/
structure DirOf (D : List UInt8) (t : Tok) : Prop where
  len : 4 ≤ D.length
  start : find2 123 D = some 0
  stop : find2 125 (D.drop 2) = some (D.length - 4)
  tok : dirOf (words ((D.drop 2).take (D.length - 4))) = .ok t
theorem DirOf.lx {D : List UInt8} {t : Tok} (h : DirOf D t) {r : List UInt8} {a : Nat} {ts : List Tok} (hr : Lx r (a + D.length) ts) : Lx (D ++ r) a ({ t with a := a } :: ts) := by
  have hl := h.len
  refine Lx.dir (D ++ r) a (D.length - 4) t ts (find2_append_some h.start r) ?_ ?_ ?_
  · rw [List.drop_append_of_le_length (by omega)]
    exact find2_append_some h.stop r
  · rw [List.drop_append_of_le_length (by omega), List.take_append_of_le_length (by simp; omega)]
    exact h.tok
  · rw [show D.length - 4 + 4 = D.length by omega, List.drop_left]
    exact hr
def defL (i : Nat) : List UInt8 := [123, 123, 100, 101, 102, 105, 110, 101, 32] ++ (nmB i ++ [125, 125])
def callL (i : Nat) : List UInt8 := [123, 123, 99, 97, 108, 108, 32] ++ (nmB i ++ [125, 125])
def defT (a i : Nat) : Tok := ⟨6, a, nmB i, [], false⟩
def callT (a i : Nat) : Tok := ⟨4, a, nmB i, [], false⟩
def dirB (D : List UInt8) (t : Tok) : Bool := decide (4 ≤ D.length) && (decide (find2 123 D = some 0) && (decide (find2 125 (D.drop 2) = some (D.length - 4)) && (match dirOf (words ((D.drop 2).take (D.length - 4))) with | .ok u => decide (u = t) | .error _ => false)))
theorem dirB_of {D : List UInt8} {t : Tok} (h : dirB D t = true) : DirOf D t := by
  unfold dirB at h
  simp only [Bool.and_eq_true, decide_eq_true_eq] at h
  obtain ⟨h1, h2, h3, h4⟩ := h
  refine ⟨h1, h2, h3, ?_⟩
  split at h4
  · rename_i u hu
    rw [hu, of_decide_eq_true h4]
  · cases h4
theorem def_all : (List.range 70).all (fun i => dirB (defL i) (defT 0 i)) = true := by decide +kernel
theorem call_all : (List.range 70).all (fun i => dirB (callL i) (callT 0 i)) = true := by decide +kernel
theorem def_dir {i : Nat} (h : i < 70) : DirOf (defL i) (defT 0 i) := dirB_of (List.all_eq_true.1 def_all i (List.mem_range.2 h))
theorem call_dir {i : Nat} (h : i < 70) : DirOf (callL i) (callT 0 i) := dirB_of (List.all_eq_true.1 call_all i (List.mem_range.2 h))
theorem end_dir : DirOf enL ⟨8, 0, [], [], false⟩ := dirB_of (by decide +kernel)
theorem nm_inj_all : (List.range 70).all (fun i => (List.range 70).all fun j => decide (nmB i = nmB j → i = j)) = true := by decide +kernel
theorem nm_inj {i j : Nat} (hi : i < 70) (hj : j < 70) (h : nmB i = nmB j) : i = j := by
  have := List.all_eq_true.1 nm_inj_all i (List.mem_range.2 hi)
  have := List.all_eq_true.1 this j (List.mem_range.2 hj)
  exact of_decide_eq_true this h
theorem nm_len (i : Nat) : (nmB i).length = if i < 10 then 2 else 3 := by unfold nmB; split <;> rfl
theorem defL_len (i : Nat) : (defL i).length = (nmB i).length + 11 := by simp [defL]
theorem callL_len (i : Nat) : (callL i).length = (nmB i).length + 9 := by simp [callL]
/-- n definitions without a body, the first is that of number i, from offset a on. -/
def sdL : Nat → Nat → List UInt8
  | _, 0 => []
  | i, n + 1 => defL i ++ (enL ++ sdL (i + 1) n)
def sdT : Nat → Nat → Nat → List Tok
  | _, _, 0 => []
  | a, i, n + 1 => defT a i :: enT (a + (defL i).length) :: sdT (a + (defL i).length + 7) (i + 1) n
def sdN : Nat → Nat → Nat → List NT
  | _, _, 0 => []
  | a, i, n + 1 => nd (defT a i) false [] [] :: sdN (a + (defL i).length + 7) (i + 1) n
theorem sd_lx : ∀ (n i a : Nat) (r : List UInt8) (ts : List Tok), i + n ≤ 70 → Lx r (a + (sdL i n).length) ts → Lx (sdL i n ++ r) a (sdT a i n ++ ts)
  | 0, i, a, r, ts, _, h => by simpa [sdL, sdT] using h
  | n + 1, i, a, r, ts, hi, h => by
    rw [sdL, sdT, List.append_assoc, List.append_assoc, List.cons_append, List.cons_append]
    refine (def_dir (by omega)).lx (end_dir.lx ?_)
    have h7 : enL.length = 7 := rfl
    refine sd_lx n (i + 1) _ r ts (by omega) ?_
    rw [sdL, List.length_append, List.length_append] at h
    rw [h7] at h ⊢
    have e : a + (defL i).length + 7 + (sdL (i + 1) n).length = a + ((defL i).length + (7 + (sdL (i + 1) n).length)) := by omega
    rw [e]
    exact h
theorem sd_P : ∀ (n i a : Nat) (ts : List Tok) (c : Nat), c + n ≤ 4096 → P (sdT a i n ++ ts) 0 false 0 c = PR.pre (sdN a i n) (P ts 0 false 0 (c + n))
  | 0, i, a, ts, c, _ => by rw [sdT, sdN, List.nil_append, pre_nil]; rfl
  | n + 1, i, a, ts, c, hc => by
    rw [sdT, sdN, List.cons_append, List.cons_append, P_step_block (by rintro (⟨_, h⟩ | ⟨_, h⟩) <;> omega) (by omega) rfl, P_end rfl, if_neg (by simp [defT])]
    dsimp only
    rw [if_neg (by simp [enT]), sd_P n (i + 1) _ ts (c + 1) (by omega), cons_pre, show c + 1 + n = c + (n + 1) by omega]
theorem sdN_names : ∀ (n i a : Nat), namesN (sdN a i n) = (List.range' i n).map fun j => ofL (nmB j)
  | 0, i, a => rfl
  | n + 1, i, a => by
    have := sdN_names n (i + 1) (a + (defL i).length + 7)
    rw [sdN, List.range'_succ, List.map_cons, ← this]
    rfl
theorem sdN_calls : ∀ (n i a : Nat), callNs (sdN a i n) = []
  | 0, i, a => by rw [sdN, callNs_nil]
  | n + 1, i, a => by
    rw [sdN, callNs_cons, sdN_calls n, callN_eq]
    simp [nd, NT.k, NT.b, NT.l, callNs_nil, defT]
theorem sdN_nodup {n i a : Nat} (h : i + n ≤ 70) : (namesN (sdN a i n)).Nodup := by
  rw [sdN_names, List.nodup_iff_pairwise_ne, List.pairwise_map]
  have := List.pairwise_lt_range' (s := i) (n := n) (step := 1)
  refine this.imp_of_mem (fun {x y} hx hy hlt e => ?_)
  rw [List.mem_range'] at hx hy
  obtain ⟨_, _, rfl⟩ := hx
  obtain ⟨_, _, rfl⟩ := hy
  have := nm_inj (by omega) (by omega) (ofL_inj e)
  omega
theorem sdN_append : ∀ (n m i a : Nat), sdN a i (n + m) = sdN a i n ++ sdN (a + (sdL i n).length) (i + n) m
  | 0, m, i, a => by simp [sdN, sdL]
  | n + 1, m, i, a => by
    rw [show n + 1 + m = (n + m) + 1 by omega, sdN, sdN, List.cons_append, sdN_append n m (i + 1)]
    have h7 : enL.length = 7 := rfl
    rw [sdL, List.length_append, List.length_append, h7, show i + 1 + n = i + (n + 1) by omega, show a + (defL i).length + 7 + (sdL (i + 1) n).length = a + ((defL i).length + (7 + (sdL (i + 1) n).length)) by omega]
theorem sdL_append : ∀ (n m i : Nat), sdL i (n + m) = sdL i n ++ sdL (i + n) m
  | 0, m, i => by simp [sdL]
  | n + 1, m, i => by rw [show n + 1 + m = (n + m) + 1 by omega, sdL, sdL, sdL_append n m (i + 1), show i + 1 + n = i + (n + 1) by omega, List.append_assoc, List.append_assoc]
theorem sdL_len : ∀ (n i : Nat), (sdL i n).length ≤ 21 * n
  | 0, i => by simp [sdL]
  | n + 1, i => by
    have h7 : enL.length = 7 := rfl
    have := sdL_len n (i + 1)
    rw [sdL, List.length_append, List.length_append, h7, defL_len, nm_len]
    split <;> omega
end Go.Proofs.YtkipmaoeejdncaaDoor

namespace Go.Proofs.YtkipmaoeejdncaaDoor
open NT
set_option linter.unusedVariables false
set_option linter.unusedSimpArgs false

/-- n definitions, the first of number j, each with a call of the next one; from offset a on. -/
def chL : Nat → Nat → List UInt8
  | _, 0 => []
  | j, n + 1 => defL j ++ ((if n = 0 then [] else callL (j + 1)) ++ (enL ++ chL (j + 1) n))
def chE (a j n : Nat) : Nat := a + (defL j).length + (if n = 0 then 0 else (callL (j + 1)).length)
def chT : Nat → Nat → Nat → List Tok
  | _, _, 0 => []
  | a, j, n + 1 => defT a j :: ((if n = 0 then [] else [callT (a + (defL j).length) (j + 1)]) ++ (enT (chE a j n) :: chT (chE a j n + 7) (j + 1) n))
def chN : Nat → Nat → Nat → List NT
  | _, _, 0 => []
  | a, j, n + 1 => nd (defT a j) false (if n = 0 then [] else [nd (callT (a + (defL j).length) (j + 1)) false [] []]) [] :: chN (chE a j n + 7) (j + 1) n
def chC : Nat → Nat
  | 0 => 0
  | n + 1 => 1 + (if n = 0 then 0 else 1) + chC n
theorem chC_le : ∀ n, chC n ≤ 2 * n
  | 0 => Nat.le_refl _
  | n + 1 => by rw [chC]; have := chC_le n; split <;> omega
theorem ch_lx : ∀ (n j a : Nat) (r : List UInt8) (ts : List Tok), j + n ≤ 69 → Lx r (a + (chL j n).length) ts → Lx (chL j n ++ r) a (chT a j n ++ ts)
  | 0, j, a, r, ts, _, h => by simpa [chL, chT] using h
  | n + 1, j, a, r, ts, hj, h => by
    have h7 : enL.length = 7 := rfl
    rw [chL, List.length_append, List.length_append, List.length_append, h7] at h
    rw [chL, chT, List.append_assoc, List.append_assoc, List.append_assoc, List.cons_append, List.append_assoc, List.cons_append]
    refine (def_dir (by omega)).lx ?_
    have tail : Lx (enL ++ (chL (j + 1) n ++ r)) (chE a j n) (enT (chE a j n) :: (chT (chE a j n + 7) (j + 1) n ++ ts)) := by
      refine end_dir.lx (ch_lx n (j + 1) _ r ts (by omega) ?_)
      rw [h7]
      have e : chE a j n + 7 + (chL (j + 1) n).length = a + ((defL j).length + ((if n = 0 then [] else callL (j + 1)).length + (7 + (chL (j + 1) n).length))) := by
        unfold chE
        by_cases hn : n = 0
        · rw [if_pos hn, if_pos hn]; simp only [List.length_nil]; omega
        · rw [if_neg hn, if_neg hn]; omega
      rw [e]
      exact h
    by_cases hn : n = 0
    · subst hn
      have e0 : chE a j 0 = a + (defL j).length := by simp [chE]
      rw [if_pos rfl, if_pos rfl, List.nil_append, List.nil_append]
      rw [e0] at tail ⊢
      exact tail
    · rw [if_neg hn, if_neg hn]
      refine (call_dir (by omega)).lx ?_
      unfold chE at tail ⊢
      rw [if_neg hn] at tail ⊢
      exact tail
theorem ch_P : ∀ (n a j : Nat) (ts : List Tok) (c : Nat), c + chC n ≤ 4096 → P (chT a j n ++ ts) 0 false 0 c = PR.pre (chN a j n) (P ts 0 false 0 (c + chC n))
  | 0, a, j, ts, c, _ => by rw [chT, chN, List.nil_append, pre_nil]; rfl
  | n + 1, a, j, ts, c, hc => by
    rw [chC] at hc
    rw [chT, chN, List.cons_append, List.append_assoc, List.cons_append]
    by_cases hn : n = 0
    · subst hn
      rw [if_pos rfl] at hc
      rw [if_pos rfl, if_pos rfl, List.nil_append]
      rw [P_step_block (by rintro (⟨_, h⟩ | ⟨_, h⟩) <;> omega) (by omega) rfl, P_end rfl, if_neg (by simp [defT])]
      dsimp only
      rw [if_neg (by simp [enT]), ch_P 0 _ _ ts (c + 1) (by simp [chC]; omega), cons_pre]
      rfl
    · rw [if_neg hn] at hc
      rw [if_neg hn, if_neg hn, List.singleton_append]
      rw [P_step_block (by rintro (⟨_, h⟩ | ⟨_, h⟩) <;> omega) (by omega) rfl, P_leaf (by simp [callT]) (by simp [callT]) (by omega) rfl, P_end rfl, if_neg (by simp [defT])]
      dsimp only [PR.cons]
      rw [if_neg (by simp [enT]), ch_P n _ (j + 1) ts (c + 1 + 1) (by omega)]
      rw [show c + chC (n + 1) = c + 1 + 1 + chC n by rw [chC, if_neg hn]; omega]
      exact cons_pre _ _ _
theorem chL_len : ∀ (n j : Nat), (chL j n).length ≤ 33 * n
  | 0, j => by simp [chL]
  | n + 1, j => by
    have h7 : enL.length = 7 := rfl
    have := chL_len n (j + 1)
    have h1 : (if n = 0 then [] else callL (j + 1)).length ≤ 12 := by
      split
      · simp
      · rw [callL_len, nm_len]; split <;> omega
    have h2 : (defL j).length ≤ 14 := by rw [defL_len, nm_len]; split <;> omega
    rw [chL, List.length_append, List.length_append, List.length_append, h7]
    omega
theorem chN_names : ∀ (n a j : Nat), namesN (chN a j n) = (List.range' j n).map fun i => ofL (nmB i)
  | 0, a, j => rfl
  | n + 1, a, j => by
    have := chN_names n (chE a j n + 7) (j + 1)
    rw [chN, List.range'_succ, List.map_cons, ← this]
    rfl
theorem names_nodup {n j : Nat} (h : j + n ≤ 70) : ((List.range' j n).map fun i => ofL (nmB i)).Nodup := by
  rw [List.nodup_iff_pairwise_ne, List.pairwise_map]
  have := List.pairwise_lt_range' (s := j) (n := n) (step := 1)
  refine this.imp_of_mem (fun {x y} hx hy hlt e => ?_)
  rw [List.mem_range'] at hx hy
  obtain ⟨_, _, rfl⟩ := hx
  obtain ⟨_, _, rfl⟩ := hy
  have := nm_inj (by omega) (by omega) (ofL_inj e)
  omega
theorem chN_main : ∀ (n a j : Nat), mainN (chN a j n) = []
  | 0, a, j => rfl
  | n + 1, a, j => by
    have := chN_main n (chE a j n + 7) (j + 1)
    rw [chN]
    unfold mainN at this ⊢
    rw [List.filter_cons, if_neg (by simp [isDef, nd, NT.k, defT]), this]
/-- What each of the definitions is like. -/
theorem mem_ch : ∀ (n a j : Nat) (t : NT), t ∈ chN a j n → ∃ i, i < n ∧ t.k = 6 ∧ t.s = ofL (nmB (j + i)) ∧ (i + 1 < n → ∃ c, c ∈ callNs t.b ∧ c.s = ofL (nmB (j + i + 1))) ∧ (i + 1 = n → callNs t.b = [])
  | 0, a, j, t, h => by rw [chN] at h; cases h
  | n + 1, a, j, t, h => by
    rw [chN] at h
    rcases List.mem_cons.1 h with rfl | h
    · refine ⟨0, by omega, rfl, rfl, fun hn => ?_, fun hn => ?_⟩
      · have hn : ¬ n = 0 := by omega
        refine ⟨nd (callT (a + (defL j).length) (j + 1)) false [] [], ?_, rfl⟩
        show _ ∈ callNs (if n = 0 then [] else _)
        rw [if_neg hn, callNs_cons, callN_eq, callNs_nil]
        simp [nd, NT.k, NT.b, NT.l, callNs_nil, callT]
      · have hn : n = 0 := by omega
        show callNs (if n = 0 then [] else _) = []
        rw [if_pos hn, callNs_nil]
    · obtain ⟨i, h1, h2, h3, h4, h5⟩ := mem_ch n _ _ t h
      refine ⟨i + 1, by omega, h2, by rw [h3, show j + 1 + i = j + (i + 1) by omega], fun hn => ?_, fun hn => h5 (by omega)⟩
      obtain ⟨c, c1, c2⟩ := h4 (by omega)
      exact ⟨c, c1, by rw [c2, show j + 1 + i + 1 = j + (i + 1) + 1 by omega]⟩
theorem findN_append {l m : List NT} {n : ByteArray} (h : ∀ t, t ∈ m → t.k ≠ 6) {d : NT} (hd : findN (l ++ m) n = some d) : d ∈ l := by
  obtain ⟨h1, h2, h3⟩ := findN_some hd
  rcases List.mem_append.1 h1 with h1 | h1
  · exact h1
  · exact absurd h2 (h d h1)
theorem namesN_append (l m : List NT) : namesN (l ++ m) = namesN l ++ namesN m := by simp [namesN, defsN]
theorem mainN_append (l m : List NT) : mainN (l ++ m) = mainN l ++ mainN m := by simp [mainN]
/-- A chain and one main node. -/
theorem rch_all {n j a : Nat} {m : NT} (hj : j + n ≤ 69) (hn : 0 < n) (hm : m.k ≠ 6) {c : NT} (hc : c ∈ callN m) (hs : c.s = ofL (nmB j)) : ∀ i, i < n → Rch (chN a j n ++ [m]) (ofL (nmB (j + i))) := by
  have hnm : ∀ i, i < n → ofL (nmB (j + i)) ∈ namesN (chN a j n ++ [m]) := fun i hi => by
    rw [namesN_append, List.mem_append, chN_names]
    exact .inl (List.mem_map.2 ⟨j + i, List.mem_range'.2 ⟨i, hi, by omega⟩, rfl⟩)
  have hmain : mainN (chN a j n ++ [m]) = [m] := by
    rw [mainN_append, chN_main]
    simp [mainN, isDef, hm]
  intro i
  induction i with
  | zero =>
    intro hi
    rw [Nat.add_zero, ← hs]
    refine Rch.main c (by rw [hmain, callNs_cons, callNs_nil, List.append_nil]; exact hc) ?_
    rw [hs]
    exact hnm 0 hn
  | succ i ih =>
    intro hi
    have h1 := ih (by omega)
    obtain ⟨d, hd⟩ := findN_of_mem (hnm i (by omega))
    obtain ⟨_, hk, hds⟩ := findN_some hd
    have hmem := findN_append (fun t ht => by simp at ht; subst ht; exact hm) hd
    obtain ⟨i', h2, h3, h4, h5, h6⟩ := mem_ch n a j d hmem
    have : i' = i := by
      have := nm_inj (by omega) (by omega) (ofL_inj (h4.symm.trans hds))
      omega
    subst this
    obtain ⟨c', c1, c2⟩ := h5 (by omega)
    rw [show j + (i' + 1) = j + i' + 1 by omega, ← c2]
    refine Rch.step _ d c' h1 hd c1 ?_
    rw [c2]
    exact hnm (i' + 1) hi
theorem rch_last {n j a : Nat} {m c : NT} (hj : j + n + 1 ≤ 69) (hm : m.k ≠ 6) (hc : callN m = [c]) (hs : c.s = ofL (nmB (j + n))) (x : ByteArray) : Rch (chN a j (n + 1) ++ [m]) x ↔ x = ofL (nmB (j + n)) := by
  have hmain : mainN (chN a j (n + 1) ++ [m]) = [m] := by
    rw [mainN_append, chN_main]
    simp [mainN, isDef, hm]
  constructor
  · intro h
    induction h with
    | main c' h1 h2 =>
      rw [hmain, callNs_cons, callNs_nil, List.append_nil, hc] at h1
      simp at h1
      subst h1
      exact hs
    | step y d c' h0 h1 h2 h3 ih =>
      subst ih
      obtain ⟨_, hk, hds⟩ := findN_some h1
      have hmem := findN_append (fun t ht => by simp at ht; subst ht; exact hm) h1
      obtain ⟨i', h4, h5, h6, h7, h8⟩ := mem_ch (n + 1) a j d hmem
      have : i' = n := by
        have := nm_inj (by omega) (by omega) (ofL_inj (h6.symm.trans hds))
        omega
      subst this
      rw [h8 rfl] at h2
      cases h2
  · rintro rfl
    rw [← hs]
    refine Rch.main c (by rw [hmain, callNs_cons, callNs_nil, List.append_nil, hc]; simp) ?_
    rw [hs, namesN_append, List.mem_append, chN_names]
    exact .inl (List.mem_map.2 ⟨j + n, List.mem_range'.2 ⟨n, by omega, by omega⟩, rfl⟩)
theorem rch_none {n j a : Nat} (x : ByteArray) : ¬ Rch (chN a j n) x := by
  intro h
  induction h with
  | main c' h1 h2 => rw [chN_main, callNs_nil] at h1; cases h1
  | step _ _ _ _ _ _ _ ih => exact ih
/-- Two lists without duplicates that hold the same are equally long. -/
theorem nodup_len_le : ∀ (l m : List (List UInt8)), l.Nodup → (∀ x, x ∈ l → x ∈ m) → l.length ≤ m.length
  | [], m, _, _ => Nat.zero_le _
  | x :: l, m, hn, h => by
    rw [List.nodup_cons] at hn
    have h1 := nodup_len_le l (m.erase x) hn.2 (fun y hy => by
      have hne : y ≠ x := fun e => hn.1 (e ▸ hy)
      exact (List.mem_erase_of_ne hne).2 (h y (by simp [hy])))
    rw [List.length_erase_of_mem (h x (by simp))] at h1
    have : 0 < m.length := List.length_pos_of_mem (h x (by simp))
    simp
    omega
theorem nodup_len {l m : List ByteArray} (hl : l.Nodup) (hm : m.Nodup) (h : ∀ x, x ∈ l ↔ x ∈ m) : l.length = m.length := by
  have inj : ∀ k : List ByteArray, k.Nodup → (k.map toL).Nodup := fun k hk => by
    rw [List.nodup_iff_pairwise_ne, List.pairwise_map]
    exact (List.nodup_iff_pairwise_ne.1 hk).imp (fun hne e => hne (toL_inj e))
  have mm : ∀ {k q : List ByteArray}, (∀ x, x ∈ k → x ∈ q) → ∀ y, y ∈ k.map toL → y ∈ q.map toL := fun hk y hy => by
    obtain ⟨x, hx, rfl⟩ := List.mem_map.1 hy
    exact List.mem_map.2 ⟨x, hk x hx, rfl⟩
  have h1 := nodup_len_le _ _ (inj l hl) (mm fun x hx => (h x).1 hx)
  have h2 := nodup_len_le _ _ (inj m hm) (mm fun x hx => (h x).2 hx)
  simp at h1 h2
  omega
end Go.Proofs.YtkipmaoeejdncaaDoor

namespace Go.Proofs.YtkipmaoeejdncaaDoor
open NT
set_option linter.unusedVariables false
set_option linter.unusedSimpArgs false

theorem callN_er (t : NT) : callN t.er = (callN t).map er := by
  refine NT.ind (M := fun t => callN t.er = (callN t).map er) (fun t h1 h2 => ?_) t
  have key : ∀ l : List NT, (∀ x, x ∈ l → callN x.er = (callN x).map er) → callNs (ers l) = (callNs l).map er := by
    intro l
    induction l with
    | nil => intro _; simp [ers, callNs_nil]
    | cons x l ih =>
      intro h
      rw [ers, callNs_cons, callNs_cons, List.map_append, h x (by simp), ih fun y hy => h y (by simp [hy])]
  rw [callN_eq t.er, callN_eq t, er_k, er_b, er_l, key _ h1, key _ h2]
  by_cases hk : t.k = 4 <;> simp [hk]
theorem callNs_ers : ∀ l : List NT, callNs (ers l) = (callNs l).map er
  | [] => by simp [ers, callNs_nil]
  | x :: l => by rw [ers, callNs_cons, callNs_cons, List.map_append, callN_er, callNs_ers l]
theorem defsN_ers : ∀ l : List NT, defsN (ers l) = (defsN l).map er
  | [] => rfl
  | x :: l => by
    have := defsN_ers l
    unfold defsN at this ⊢
    rw [ers, List.filter_cons, List.filter_cons, show isDef x.er = isDef x from by unfold isDef; rw [er_k], this]
    split <;> rfl
theorem mainN_ers : ∀ l : List NT, mainN (ers l) = (mainN l).map er
  | [] => rfl
  | x :: l => by
    have := mainN_ers l
    unfold mainN at this ⊢
    rw [ers, List.filter_cons, List.filter_cons, show isDef x.er = isDef x from by unfold isDef; rw [er_k], this]
    split <;> rfl
theorem mainN_ers' (l : List NT) : mainN (ers l) = ers (mainN l) := by rw [mainN_ers, ers_map]
theorem namesN_ers (l : List NT) : namesN (ers l) = namesN l := by
  unfold namesN
  rw [defsN_ers, List.map_map]
  exact List.map_congr_left fun t _ => er_s t
theorem findN_ers : ∀ (l : List NT) (n : ByteArray), findN (ers l) n = (findN l n).map er
  | [], n => rfl
  | x :: l, n => by
    have := findN_ers l n
    unfold findN at this ⊢
    rw [ers, List.find?_cons, List.find?_cons, show isDefOf n x.er = isDefOf n x from by unfold isDefOf; rw [er_k, er_s], this]
    split <;> rfl
theorem dupN_er : ∀ (l : List NT) (seen : List ByteArray), dupN seen (l.map er) = dupN seen l
  | [], seen => rfl
  | x :: l, seen => by
    rw [List.map_cons]
    unfold dupN
    rw [er_s, er_a, dupN_er l]
theorem checkN_ers (l : List NT) : checkN (ers l) = checkN l := by
  unfold checkN
  rw [defsN_ers, dupN_er, callNs_ers, List.find?_map]
  have h : (badCall (ers l) ∘ er) = badCall l := by
    funext t
    show badCall (ers l) t.er = badCall l t
    unfold badCall
    rw [namesN_ers, er_s]
  rw [h]
  split
  · rfl
  · cases (callNs l).find? (badCall l) with
    | none => rfl
    | some t => simp [er_a]
theorem rch_ers {l : List NT} {n : ByteArray} : Rch (ers l) n ↔ Rch l n := by
  constructor
  · intro h
    induction h with
    | main c h1 h2 =>
      rw [mainN_ers', callNs_ers] at h1
      obtain ⟨c', hc, rfl⟩ := List.mem_map.1 h1
      rw [namesN_ers, er_s] at h2
      rw [er_s]
      exact .main c' hc h2
    | step n d c h0 h1 h2 h3 ih =>
      rw [findN_ers] at h1
      obtain ⟨d', hd, rfl⟩ := Option.map_eq_some_iff.1 h1
      rw [er_b, callNs_ers] at h2
      obtain ⟨c', hc, rfl⟩ := List.mem_map.1 h2
      rw [namesN_ers, er_s] at h3
      rw [er_s]
      exact .step n d' c' ih hd hc h3
  · intro h
    induction h with
    | main c h1 h2 =>
      rw [← er_s c]
      exact .main c.er (by rw [mainN_ers', callNs_ers]; exact List.mem_map.2 ⟨c, h1, rfl⟩) (by rw [namesN_ers, er_s]; exact h2)
    | step n d c h0 h1 h2 h3 ih =>
      rw [← er_s c]
      exact .step n d.er c.er ih (by rw [findN_ers, h1]; rfl) (by rw [er_b, callNs_ers]; exact List.mem_map.2 ⟨c, h2, rfl⟩) (by rw [namesN_ers, er_s]; exact h3)

/-! ### What a program's answers are like -/
/-- The order of bytes. -/
def bLt (a b : ByteArray) : Prop := toL a < toL b
/-- What Reachable answers. -/
structure RchIs (l : List NT) (R : List ByteArray) : Prop where
  asc : R.Pairwise bLt
  names : ∀ n, n ∈ R → n ∈ namesN l
  all : (namesN l).Nodup → ∀ n, n ∈ R ↔ Rch l n
theorem bLt_irrefl (a : ByteArray) : ¬ bLt a a := by
  unfold bLt
  exact List.lt_irrefl _
theorem RchIs.nodup {l : List NT} {R : List ByteArray} (h : RchIs l R) : R.Nodup := by
  rw [List.nodup_iff_pairwise_ne]
  exact h.asc.imp fun {a b} hab (e : a = b) => bLt_irrefl a (by rw [← e] at hab; exact hab)
theorem RchIs.of_ers {l : List NT} {R : List ByteArray} (h : RchIs (ers l) R) : RchIs l R :=
  ⟨h.asc, fun n hn => by have := h.names n hn; rwa [namesN_ers] at this, fun hn n => by rw [h.all (by rw [namesN_ers]; exact hn), rch_ers]⟩
theorem RchIs.to_ers {l : List NT} {R : List ByteArray} (h : RchIs l R) : RchIs (ers l) R :=
  ⟨h.asc, fun n hn => by rw [namesN_ers]; exact h.names n hn, fun hn n => by rw [rch_ers]; exact h.all (by rw [namesN_ers] at hn; exact hn) n⟩
/-- Two answers for one template are the same. -/
theorem asc_same : ∀ {R S : List ByteArray}, R.Pairwise bLt → S.Pairwise bLt → (∀ n, n ∈ R ↔ n ∈ S) → R = S
  | [], [], _, _, _ => rfl
  | [], b :: S, _, _, h => absurd ((h b).2 (by simp)) (by simp)
  | a :: R, [], _, _, h => absurd ((h a).1 (by simp)) (by simp)
  | a :: R, b :: S, hR, hS, h => by
    rw [List.pairwise_cons] at hR hS
    have hab : a = b := by
      rcases List.mem_cons.1 ((h a).1 (by simp)) with e | h1
      · exact e
      rcases List.mem_cons.1 ((h b).2 (by simp)) with e | h2
      · exact e.symm
      exact absurd (List.lt_trans (hS.1 a h1) (hR.1 b h2)) (List.lt_irrefl _)
    subst hab
    congr 1
    refine asc_same hR.2 hS.2 fun n => ⟨fun hn => ?_, fun hn => ?_⟩
    · rcases List.mem_cons.1 ((h n).1 (by simp [hn])) with e | h1
      · subst e; exact absurd (hR.1 n hn) (bLt_irrefl n)
      · exact h1
    · rcases List.mem_cons.1 ((h n).2 (by simp [hn])) with e | h1
      · subst e; exact absurd (hS.1 n hn) (bLt_irrefl n)
      · exact h1
end Go.Proofs.YtkipmaoeejdncaaDoor

namespace Go.Proofs.YtkipmaoeejdncaaDoor
open NT
set_option linter.unusedVariables false
set_option linter.unusedSimpArgs false

/-- From F on, the calls cs visited: F' has come. N are the names that count, bd what is visited for a name. -/
structure Wst (N : List ByteArray) (bd : ByteArray → List NT) (F : List ByteArray) (cs : List NT) (F' : List ByteArray) : Prop where
  ext : ∃ G, F' = F ++ G
  nodup : F.Nodup → F'.Nodup
  names : (∀ n, n ∈ F → n ∈ N) → ∀ n, n ∈ F' → n ∈ N
  met : ∀ c, c ∈ cs → c.s ∈ N → c.s ∈ F'
  shut : ∀ x, x ∈ F' → x ∉ F → ∀ c, c ∈ callNs (bd x) → c.s ∈ N → c.s ∈ F'
  sound : ∀ Q : ByteArray → Prop, (∀ x, Q x → ∀ c, c ∈ callNs (bd x) → c.s ∈ N → Q c.s) → (∀ c, c ∈ cs → c.s ∈ N → Q c.s) → ∀ x, x ∈ F' → x ∉ F → Q x
theorem Wst.sub {N : List ByteArray} {bd : ByteArray → List NT} {F F' : List ByteArray} {cs : List NT} (h : Wst N bd F cs F') {x : ByteArray} (hx : x ∈ F) : x ∈ F' := by
  obtain ⟨G, rfl⟩ := h.ext
  exact List.mem_append.2 (.inl hx)
theorem Wst.nil (N : List ByteArray) (bd : ByteArray → List NT) (F : List ByteArray) : Wst N bd F [] F :=
  ⟨⟨[], by simp⟩, id, id, fun c h => (by cases h), fun x h1 h2 => absurd h1 h2, fun Q _ _ x h1 h2 => absurd h1 h2⟩
/-- Calls of the same names. -/
theorem Wst.same {N : List ByteArray} {bd : ByteArray → List NT} {F F' : List ByteArray} {cs cs' : List NT} (h : Wst N bd F cs F') (e : cs'.map NT.s = cs.map NT.s) : Wst N bd F cs' F' := by
  have key : ∀ (p q : List NT), p.map NT.s = q.map NT.s → ∀ c, c ∈ p → ∃ c', c' ∈ q ∧ c'.s = c.s := fun p q e c hc => by
    have h1 : c.s ∈ q.map NT.s := by rw [← e]; exact List.mem_map.2 ⟨c, hc, rfl⟩
    exact List.mem_map.1 h1
  refine ⟨h.ext, h.nodup, h.names, fun c hc hn => ?_, h.shut, fun Q hq hcs => h.sound Q hq fun c hc hn => ?_⟩
  · obtain ⟨c', h1, h2⟩ := key _ _ e c hc
    rw [← h2] at hn ⊢
    exact h.met c' h1 hn
  · obtain ⟨c', h1, h2⟩ := key _ _ e.symm c hc
    rw [← h2] at hn ⊢
    exact hcs c' h1 hn
/-- A call of a name that does not count, or of one that has been met. -/
theorem Wst.skip {N : List ByteArray} {bd : ByteArray → List NT} {F F' : List ByteArray} {cs : List NT} (h : Wst N bd F cs F') {c : NT} (hc : c.s ∉ N ∨ c.s ∈ F') : Wst N bd F (cs ++ [c]) F' := by
  refine ⟨h.ext, h.nodup, h.names, fun x hx hn => ?_, h.shut, fun Q hq hcs => h.sound Q hq fun x hx => hcs x (List.mem_append.2 (.inl hx))⟩
  rcases List.mem_append.1 hx with hx | hx
  · exact h.met x hx hn
  · rw [List.mem_singleton] at hx
    subst hx
    rcases hc with hc | hc
    · exact absurd hn hc
    · exact hc
/-- A call of a name that has not been met: it is kept, the calls of the name's bodies are visited. -/
theorem Wst.step {N : List ByteArray} {bd : ByteArray → List NT} {F F1 F2 : List ByteArray} {cs : List NT} (h : Wst N bd F cs F1) {c : NT} (hn : c.s ∈ N) (hc : c.s ∉ F1) (h2 : Wst N bd (F1 ++ [c.s]) (callNs (bd c.s)) F2) : Wst N bd F (cs ++ [c]) F2 := by
  have hsub : ∀ x, x ∈ F1 → x ∈ F2 := fun x hx => h2.sub (List.mem_append.2 (.inl hx))
  have hcm : c.s ∈ F2 := h2.sub (List.mem_append.2 (.inr (List.mem_singleton.2 rfl)))
  refine ⟨?_, fun hF => h2.nodup ?_, fun hF => h2.names ?_, fun x hx hxn => ?_, fun x hx hxF c' hc' hcn => ?_, fun Q hq hcs x hx hxF => ?_⟩
  · obtain ⟨G, rfl⟩ := h.ext
    obtain ⟨G2, rfl⟩ := h2.ext
    exact ⟨G ++ [c.s] ++ G2, by simp⟩
  · rw [List.nodup_append]
    refine ⟨h.nodup hF, by simp, fun a ha b hb => ?_⟩
    rw [List.mem_singleton] at hb
    subst hb
    intro e
    subst e
    exact hc ha
  · intro n hnn
    rcases List.mem_append.1 hnn with h3 | h3
    · exact h.names hF n h3
    · rw [List.mem_singleton] at h3
      subst h3
      exact hn
  · rcases List.mem_append.1 hx with h3 | h3
    · exact hsub _ (h.met x h3 hxn)
    · rw [List.mem_singleton] at h3
      subst h3
      exact hcm
  · by_cases h1 : x ∈ F1
    · exact hsub _ (h.shut x h1 hxF c' hc' hcn)
    · by_cases hxc : x = c.s
      · subst hxc
        exact h2.met c' hc' hcn
      · exact h2.shut x hx (fun h3 => by
          rcases List.mem_append.1 h3 with h3 | h3
          · exact h1 h3
          · exact hxc (List.mem_singleton.1 h3)) c' hc' hcn
  · have hqc : Q c.s := hcs c (List.mem_append.2 (.inr (List.mem_singleton.2 rfl))) hn
    by_cases h1 : x ∈ F1
    · exact h.sound Q hq (fun y hy => hcs y (List.mem_append.2 (.inl hy))) x h1 hxF
    · by_cases hxc : x = c.s
      · subst hxc; exact hqc
      · exact h2.sound Q hq (fun y hy hyn => hq c.s hqc y hy hyn) x hx fun h3 => by
          rcases List.mem_append.1 h3 with h3 | h3
          · exact h1 h3
          · exact hxc (List.mem_singleton.1 h3)
/-- How many names are still to come: the depth of the visits. -/
def leftW (N F : List ByteArray) : Nat := (N.filter fun n => !hasN F n).length
theorem filter_lessW {p q : ByteArray → Bool} : ∀ {m : List ByteArray} {x : ByteArray}, (∀ y, y ∈ m → q y = true → p y = true) → x ∈ m → p x = true → q x = false → (m.filter q).length < (m.filter p).length
  | [], x, _, hx, _, _ => by cases hx
  | y :: m, x, hpq, hx, hp, hq => by
    have hle : (m.filter q).length ≤ (m.filter p).length := by
      have key : ∀ k : List ByteArray, (∀ y, y ∈ k → q y = true → p y = true) → (k.filter q).length ≤ (k.filter p).length := by
        intro k
        induction k with
        | nil => intro _; simp
        | cons z k ih =>
          intro hk
          have h1 := ih fun y hy => hk y (by simp [hy])
          rw [List.filter_cons, List.filter_cons]
          by_cases hz : q z = true
          · rw [if_pos hz, if_pos (hk z (by simp) hz)]; simp; omega
          · rw [if_neg hz]; split <;> simp <;> omega
      exact key m fun y hy => hpq y (by simp [hy])
    rw [List.filter_cons, List.filter_cons]
    rcases List.mem_cons.1 hx with e | e
    · subst e
      rw [if_pos hp, hq]
      simp
      omega
    · have h1 := filter_lessW (fun y hy => hpq y (by simp [hy])) e hp hq
      by_cases hz : q y = true
      · rw [if_pos hz, if_pos (hpq y (by simp) hz)]; simp; omega
      · rw [if_neg hz]; split <;> simp <;> omega
theorem leftW_step {N F : List ByteArray} {x : ByteArray} (hn : x ∈ N) (hx : x ∉ F) : leftW N (F ++ [x]) < leftW N F := by
  unfold leftW
  refine filter_lessW (x := x) (fun y _ hy => ?_) hn ?_ ?_
  · rw [Bool.not_eq_true'] at hy ⊢
    rw [Bool.eq_false_iff] at hy ⊢
    exact fun h => hy (hasN_iff.2 (List.mem_append.2 (.inl (hasN_iff.1 h))))
  · rw [Bool.not_eq_true', Bool.eq_false_iff]
    exact fun h => hx (hasN_iff.1 h)
  · rw [Bool.not_eq_false']
    exact hasN_iff.2 (List.mem_append.2 (.inr (List.mem_singleton.2 rfl)))
/-- More has come: no more is left. -/
theorem leftW_ext {N F G : List ByteArray} : leftW N (F ++ G) ≤ leftW N F := by
  unfold leftW
  rw [← List.countP_eq_length_filter, ← List.countP_eq_length_filter]
  refine List.countP_mono_left fun x _ h => ?_
  rw [Bool.not_eq_true', Bool.eq_false_iff] at h ⊢
  exact fun h2 => h (hasN_iff.2 (List.mem_append.2 (.inl (hasN_iff.1 h2))))

/-! ### The bodies of a name -/
/-- The bodies of all definitions of a name, one behind the other. -/
def bodD : List NT → ByteArray → List NT
  | [], _ => []
  | d :: l, n => (if d.s = n then d.b else []) ++ bodD l n
def bodN (l : List NT) (n : ByteArray) : List NT := bodD (defsN l) n
theorem bodD_append : ∀ (l m : List NT) (n : ByteArray), bodD (l ++ m) n = bodD l n ++ bodD m n
  | [], m, n => rfl
  | d :: l, m, n => by rw [List.cons_append, bodD, bodD, bodD_append l m n, List.append_assoc]
theorem bodD_none : ∀ {l : List NT} {n : ByteArray}, n ∉ l.map NT.s → bodD l n = []
  | [], n, _ => rfl
  | d :: l, n, h => by
    rw [List.map_cons, List.mem_cons, not_or] at h
    rw [bodD, if_neg (fun e => h.1 e.symm), bodD_none h.2]
    rfl
theorem bodD_tots : ∀ (l : List NT) (n : ByteArray), tots (bodD l n) ≤ tots l
  | [], n => by rw [bodD]; exact Nat.le_refl _
  | d :: l, n => by
    have h1 := bodD_tots l n
    have h2 := tot_eq d
    rw [bodD, tots_append, tots_cons]
    split
    · omega
    · rw [tots_nil]; omega
theorem tots_filter (p : NT → Bool) : ∀ l : List NT, tots (l.filter p) ≤ tots l
  | [] => by simp
  | x :: l => by
    have h1 := tots_filter p l
    rw [List.filter_cons, tots_cons]
    split
    · rw [tots_cons]; omega
    · omega
theorem bodN_tots (l : List NT) (n : ByteArray) : tots (bodN l n) ≤ tots l := Nat.le_trans (bodD_tots _ n) (tots_filter _ l)
theorem findN_defs : ∀ (l : List NT) (n : ByteArray), findN (defsN l) n = findN l n
  | [], n => rfl
  | x :: l, n => by
    have := findN_defs l n
    unfold findN defsN at this ⊢
    rw [List.filter_cons]
    by_cases hx : isDef x = true
    · rw [if_pos hx, List.find?_cons, List.find?_cons, this]
    · rw [if_neg hx, this, List.find?_cons]
      have : isDefOf n x = false := by
        unfold isDefOf
        unfold isDef at hx
        rw [Bool.not_eq_true] at hx
        rw [hx]
        rfl
      rw [this]
theorem bodN_find {l : List NT} {n : ByteArray} {d : NT} (hn : (namesN l).Nodup) (h : findN l n = some d) : bodN l n = d.b := by
  rw [← findN_defs] at h
  unfold namesN at hn
  unfold bodN
  revert hn h
  generalize hD : defsN l = D
  have hk : ∀ x, x ∈ D → x.k = 6 := fun x hx => by
    rw [← hD] at hx
    unfold defsN isDef at hx
    simpa using (List.mem_filter.1 hx).2
  clear hD
  induction D with
  | nil => intro _ h; cases h
  | cons x D ih =>
    intro hn h
    rw [List.map_cons, List.nodup_cons] at hn
    unfold findN at h ih
    rw [List.find?_cons] at h
    rw [bodD]
    by_cases hx : x.s = n
    · subst hx
      have : isDefOf x.s x = true := by unfold isDefOf; rw [hk x (by simp)]; simp
      rw [this] at h
      injection h with h
      subst h
      rw [if_pos rfl, bodD_none hn.1, List.append_nil]
    · have : isDefOf n x = false := by unfold isDefOf; simp [hx]
      rw [this] at h
      rw [if_neg hx, ih (fun y hy => hk y (by simp [hy])) hn.2 h]
      rfl
/-- What has come from the main nodes on: what Reachable is to answer. -/
theorem rch_ofW {l : List NT} {F R : List ByteArray} (h : Wst (namesN l) (bodN l) [] (callNs (mainN l)) F) (ha : R.Pairwise bLt) (hm : ∀ n, n ∈ R ↔ n ∈ F) : RchIs l R := by
  have hx : ∀ x : ByteArray, x ∉ ([] : List ByteArray) := fun x h => by cases h
  have hnm := h.names (fun n h => by cases h)
  refine ⟨ha, fun n hn => hnm n ((hm n).1 hn), fun hnd n => ?_⟩
  rw [hm n]
  constructor
  · intro hn
    refine h.sound (Rch l) (fun x hx c hc hcn => ?_) (fun c hc hcn => Rch.main c hc hcn) n hn (hx n)
    obtain ⟨d, hd⟩ := findN_of_mem hx.names
    rw [bodN_find hnd hd] at hc
    exact Rch.step x d c hx hd hc hcn
  · intro hn
    induction hn with
    | main c h1 h2 => exact h.met c h1 h2
    | step n d c h0 h1 h2 h3 ih => exact h.shut n ih (hx n) c (by rw [bodN_find hnd h1]; exact h2) h3
end Go.Proofs.YtkipmaoeejdncaaDoor
