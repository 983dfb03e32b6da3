/-
  Definitions and calls of a template, as plain data: names, the first of a name, the checks; the sources of definitions in sequence. No program is imported here.
-/
import Derived.Test.YteclclidibmajaaNpure
namespace Go.Proofs.Yteclclidibmajaa
open NT
set_option linter.unusedVariables false
set_option linter.unusedSimpArgs false

/-! ### Definitions and calls -/
def isDef (t : NT) : Bool := t.k == 6
def defsN (l : List NT) : List NT := l.filter isDef
def mainN (l : List NT) : List NT := l.filter fun t => !isDef t
def namesN (l : List NT) : List ByteArray := (defsN l).map NT.s
mutual
def callN : NT → List NT
  | .mk k a s p h e A c b B d l => (if k = 4 then [.mk k a s p h e A c b B d l] else []) ++ (callNs b ++ callNs l)
def callNs : List NT → List NT
  | [] => []
  | x :: r => callN x ++ callNs r
end
theorem callN_eq (t : NT) : callN t = (if t.k = 4 then [t] else []) ++ (callNs t.b ++ callNs t.l) := by cases t; rw [callN]; rfl
theorem callNs_nil : callNs [] = [] := by simp [callNs]
theorem callNs_cons (x : NT) (r : List NT) : callNs (x :: r) = callN x ++ callNs r := by simp [callNs]
theorem callNs_append : ∀ l m : List NT, callNs (l ++ m) = callNs l ++ callNs m
  | [], m => by simp [callNs_nil]
  | x :: l, m => by rw [List.cons_append, callNs_cons, callNs_cons, callNs_append l m, List.append_assoc]
def isDefOf (n : ByteArray) (t : NT) : Bool := t.k == 6 && decide (t.s = n)
def findN (l : List NT) (n : ByteArray) : Option NT := l.find? (isDefOf n)
theorem findN_some {l : List NT} {n : ByteArray} {t : NT} (h : findN l n = some t) : t ∈ l ∧ t.k = 6 ∧ t.s = n := by
  have h1 := List.find?_some h
  unfold isDefOf at h1
  rw [Bool.and_eq_true, beq_iff_eq, decide_eq_true_eq] at h1
  exact ⟨List.mem_of_find?_eq_some h, h1.1, h1.2⟩
theorem mem_names {l : List NT} {n : ByteArray} : n ∈ namesN l ↔ ∃ t, t ∈ l ∧ t.k = 6 ∧ t.s = n := by
  unfold namesN defsN isDef
  simp only [List.mem_map, List.mem_filter, beq_iff_eq]
  constructor
  · rintro ⟨t, ⟨h1, h2⟩, h3⟩; exact ⟨t, h1, h2, h3⟩
  · rintro ⟨t, h1, h2, h3⟩; exact ⟨t, ⟨h1, h2⟩, h3⟩
theorem findN_of_mem {l : List NT} {n : ByteArray} (h : n ∈ namesN l) : ∃ t, findN l n = some t := by
  cases hf : findN l n with
  | some t => exact ⟨t, rfl⟩
  | none =>
    obtain ⟨t, h1, h2, h3⟩ := mem_names.1 h
    have := List.find?_eq_none.1 hf t h1
    unfold isDefOf at this
    simp [h2, h3] at this
def hasN (l : List ByteArray) (n : ByteArray) : Bool := l.any fun m => decide (m = n)
theorem hasN_iff {l : List ByteArray} {n : ByteArray} : hasN l n = true ↔ n ∈ l := by
  unfold hasN
  rw [List.any_eq_true]
  constructor
  · rintro ⟨m, hm, h⟩; rw [← of_decide_eq_true h]; exact hm
  · intro h; exact ⟨n, h, by simp⟩
/-- The first definition with a fault: the names before it are seen. -/
def dupN : List ByteArray → List NT → Option (Int × Nat)
  | _, [] => none
  | seen, t :: r => if hasN seen t.s = true then some (t.a, 12) else if seen.length = 64 then some (t.a, 14) else dupN (seen ++ [t.s]) r
def badCall (l : List NT) (t : NT) : Bool := !hasN (namesN l) t.s
/-- What Check answers: the offset, the error's number. -/
def checkN (l : List NT) : Int × Nat :=
  match dupN [] (defsN l) with
  | some r => r
  | none => match (callNs l).find? (badCall l) with
    | some t => (t.a, 11)
    | none => (0, 0)
theorem dupN_none : ∀ (r : List NT) (seen : List ByteArray), dupN seen r = none → seen.Nodup → (seen ++ r.map NT.s).Nodup
  | [], seen, _, hn => by simpa using hn
  | t :: r, seen, h, hn => by
    rw [dupN] at h
    by_cases h1 : hasN seen t.s = true
    · rw [if_pos h1] at h; cases h
    rw [if_neg h1] at h
    split at h
    · cases h
    have hn2 : (seen ++ [t.s]).Nodup := by
      rw [List.nodup_append]
      exact ⟨hn, by simp, by intro a ha b hb; simp at hb; subst hb; intro e; subst e; exact h1 (hasN_iff.2 ha)⟩
    have := dupN_none r _ h hn2
    rw [List.append_assoc] at this
    exact this
theorem dupN_pass : ∀ (r : List NT) (seen : List ByteArray) (q : List NT), (seen ++ r.map NT.s).Nodup → seen.length + r.length ≤ 64 → dupN seen (r ++ q) = dupN (seen ++ r.map NT.s) q
  | [], seen, q, _, _ => by simp
  | t :: r, seen, q, hn, hl => by
    have h1 : ¬ hasN seen t.s = true := fun h => by
      rw [List.nodup_append] at hn
      exact hn.2.2 _ (hasN_iff.1 h) _ (by simp) rfl
    rw [List.cons_append]
    conv => lhs; unfold dupN
    rw [if_neg h1, if_neg (by simp at hl; omega), dupN_pass r (seen ++ [t.s]) q (by rw [List.append_assoc]; exact hn) (by simp at hl ⊢; omega)]
    simp
/-- Check says yes: the names are different, every call has a definition. -/
theorem checkN_ok {l : List NT} {a : Int} (h : checkN l = (a, 0)) : (namesN l).Nodup ∧ ∀ t, t ∈ callNs l → t.s ∈ namesN l := by
  unfold checkN at h
  cases hd : dupN [] (defsN l) with
  | some r =>
    rw [hd] at h
    exfalso
    have key : ∀ (q : List NT) (seen : List ByteArray) (b : Int), dupN seen q ≠ some (b, 0) := by
      intro q
      induction q with
      | nil => intro seen b e; cases e
      | cons t q ih =>
        intro seen b e
        unfold dupN at e
        split at e
        · cases e
        split at e
        · cases e
        exact ih _ _ e
    dsimp only at h
    rw [h] at hd
    exact key _ _ _ hd
  | none =>
    rw [hd] at h
    dsimp only at h
    have hn := dupN_none _ _ hd (by simp)
    rw [List.nil_append] at hn
    refine ⟨hn, fun t ht => ?_⟩
    cases hf : (callNs l).find? (badCall l) with
    | some t' => rw [hf] at h; cases h
    | none =>
      have := List.find?_eq_none.1 hf t ht
      unfold badCall at this
      rw [Bool.not_eq_true, Bool.not_eq_false'] at this
      exact hasN_iff.1 this
theorem checkN_of {l : List NT} (hn : (namesN l).Nodup) (hl : (namesN l).length ≤ 64) (hc : ∀ t, t ∈ callNs l → t.s ∈ namesN l) : checkN l = (0, 0) := by
  have h1 := dupN_pass (defsN l) [] [] (by simpa [namesN] using hn) (by simp [namesN] at hl ⊢; exact hl)
  rw [List.append_nil] at h1
  unfold checkN
  rw [h1]
  dsimp only [dupN]
  have : (callNs l).find? (badCall l) = none := by
    rw [List.find?_eq_none]
    intro t ht
    unfold badCall
    rw [Bool.not_eq_true, Bool.not_eq_false']
    exact hasN_iff.2 (hc t ht)
  rw [this]
theorem checkN_dup {l m : List NT} {t : NT} (hn : (namesN l).Nodup) (hl : (namesN l).length ≤ 64) (hk : t.k = 6) (ht : t.s ∈ namesN l) : checkN (l ++ t :: m) = (t.a, 12) := by
  have h0 : defsN (l ++ t :: m) = defsN l ++ t :: defsN m := by
    unfold defsN isDef
    rw [List.filter_append, List.filter_cons, if_pos (by simpa using hk)]
  unfold checkN
  rw [h0, dupN_pass (defsN l) [] _ (by simpa [namesN] using hn) (by simp [namesN] at hl ⊢; exact hl)]
  rw [List.nil_append, show List.map NT.s (defsN l) = namesN l from rfl]
  unfold dupN
  rw [if_pos (hasN_iff.2 ht)]
theorem checkN_many {l m : List NT} {t : NT} (hn : (namesN l).Nodup) (hl : (namesN l).length = 64) (hk : t.k = 6) (ht : t.s ∉ namesN l) : checkN (l ++ t :: m) = (t.a, 14) := by
  have h0 : defsN (l ++ t :: m) = defsN l ++ t :: defsN m := by
    unfold defsN isDef
    rw [List.filter_append, List.filter_cons, if_pos (by simpa using hk)]
  unfold checkN
  rw [h0, dupN_pass (defsN l) [] _ (by simpa [namesN] using hn) (by simp [namesN] at hl ⊢; omega)]
  rw [List.nil_append, show List.map NT.s (defsN l) = namesN l from rfl]
  unfold dupN
  rw [if_neg (fun h => ht (hasN_iff.1 h)), if_pos hl]

/-! ### What is reachable -/
/-- A name that is called by a main node, or in the body of the first definition of such a name; it has a definition. -/
inductive Rch (l : List NT) : ByteArray → Prop
  | main (c : NT) (h1 : c ∈ callNs (mainN l)) (h2 : c.s ∈ namesN l) : Rch l c.s
  | step (n : ByteArray) (d c : NT) (h0 : Rch l n) (h1 : findN l n = some d) (h2 : c ∈ callNs d.b) (h3 : c.s ∈ namesN l) : Rch l c.s
theorem Rch.names {l : List NT} {n : ByteArray} (h : Rch l n) : n ∈ namesN l := by cases h <;> assumption

/-! ### Sources of definitions -/
def nmB (i : Nat) : List UInt8 := 102 :: (if i < 10 then [48 + i.toUInt8] else [48 + (i / 10).toUInt8, 48 + (i % 10).toUInt8])
/-- A directive: where it ends, which token. -/
structure DirOf (D : List UInt8) (t : Tok) : Prop where
  len : 4 ≤ D.length
  start : find2 123 D = some 0
  stop : find2 125 (D.drop 2) = some (D.length - 4)
  tok : dirOf (words ((D.drop 2).take (D.length - 4))) = .ok t
theorem DirOf.lx {D : List UInt8} {t : Tok} (h : DirOf D t) {r : List UInt8} {a : Nat} {ts : List Tok} (hr : Lx r (a + D.length) ts) : Lx (D ++ r) a ({ t with a := a } :: ts) := by
  have hl := h.len
  refine Lx.dir (D ++ r) a (D.length - 4) t ts (find2_append_some h.start r) ?_ ?_ ?_
  · rw [List.drop_append_of_le_length (by omega)]
    exact find2_append_some h.stop r
  · rw [List.drop_append_of_le_length (by omega), List.take_append_of_le_length (by simp; omega)]
    exact h.tok
  · rw [show D.length - 4 + 4 = D.length by omega, List.drop_left]
    exact hr
def defL (i : Nat) : List UInt8 := [123, 123, 100, 101, 102, 105, 110, 101, 32] ++ (nmB i ++ [125, 125])
def callL (i : Nat) : List UInt8 := [123, 123, 99, 97, 108, 108, 32] ++ (nmB i ++ [125, 125])
def defT (a i : Nat) : Tok := ⟨6, a, nmB i, [], false⟩
def callT (a i : Nat) : Tok := ⟨4, a, nmB i, [], false⟩
def dirB (D : List UInt8) (t : Tok) : Bool := decide (4 ≤ D.length) && (decide (find2 123 D = some 0) && (decide (find2 125 (D.drop 2) = some (D.length - 4)) && (match dirOf (words ((D.drop 2).take (D.length - 4))) with | .ok u => decide (u = t) | .error _ => false)))
theorem dirB_of {D : List UInt8} {t : Tok} (h : dirB D t = true) : DirOf D t := by
  unfold dirB at h
  simp only [Bool.and_eq_true, decide_eq_true_eq] at h
  obtain ⟨h1, h2, h3, h4⟩ := h
  refine ⟨h1, h2, h3, ?_⟩
  split at h4
  · rename_i u hu
    rw [hu, of_decide_eq_true h4]
  · cases h4
theorem def_all : (List.range 70).all (fun i => dirB (defL i) (defT 0 i)) = true := by decide +kernel
theorem call_all : (List.range 70).all (fun i => dirB (callL i) (callT 0 i)) = true := by decide +kernel
theorem def_dir {i : Nat} (h : i < 70) : DirOf (defL i) (defT 0 i) := dirB_of (List.all_eq_true.1 def_all i (List.mem_range.2 h))
theorem call_dir {i : Nat} (h : i < 70) : DirOf (callL i) (callT 0 i) := dirB_of (List.all_eq_true.1 call_all i (List.mem_range.2 h))
theorem end_dir : DirOf enL ⟨8, 0, [], [], false⟩ := dirB_of (by decide +kernel)
theorem nm_inj_all : (List.range 70).all (fun i => (List.range 70).all fun j => decide (nmB i = nmB j → i = j)) = true := by decide +kernel
theorem nm_inj {i j : Nat} (hi : i < 70) (hj : j < 70) (h : nmB i = nmB j) : i = j := by
  have := List.all_eq_true.1 nm_inj_all i (List.mem_range.2 hi)
  have := List.all_eq_true.1 this j (List.mem_range.2 hj)
  exact of_decide_eq_true this h
theorem nm_len (i : Nat) : (nmB i).length = if i < 10 then 2 else 3 := by unfold nmB; split <;> rfl
theorem defL_len (i : Nat) : (defL i).length = (nmB i).length + 11 := by simp [defL]
theorem callL_len (i : Nat) : (callL i).length = (nmB i).length + 9 := by simp [callL]
/-- n definitions without a body, the first is that of number i, from offset a on. -/
def sdL : Nat → Nat → List UInt8
  | _, 0 => []
  | i, n + 1 => defL i ++ (enL ++ sdL (i + 1) n)
def sdT : Nat → Nat → Nat → List Tok
  | _, _, 0 => []
  | a, i, n + 1 => defT a i :: enT (a + (defL i).length) :: sdT (a + (defL i).length + 7) (i + 1) n
def sdN : Nat → Nat → Nat → List NT
  | _, _, 0 => []
  | a, i, n + 1 => nd (defT a i) false [] [] :: sdN (a + (defL i).length + 7) (i + 1) n
theorem sd_lx : ∀ (n i a : Nat) (r : List UInt8) (ts : List Tok), i + n ≤ 70 → Lx r (a + (sdL i n).length) ts → Lx (sdL i n ++ r) a (sdT a i n ++ ts)
  | 0, i, a, r, ts, _, h => by simpa [sdL, sdT] using h
  | n + 1, i, a, r, ts, hi, h => by
    rw [sdL, sdT, List.append_assoc, List.append_assoc, List.cons_append, List.cons_append]
    refine (def_dir (by omega)).lx (end_dir.lx ?_)
    have h7 : enL.length = 7 := rfl
    refine sd_lx n (i + 1) _ r ts (by omega) ?_
    rw [sdL, List.length_append, List.length_append] at h
    rw [h7] at h ⊢
    have e : a + (defL i).length + 7 + (sdL (i + 1) n).length = a + ((defL i).length + (7 + (sdL (i + 1) n).length)) := by omega
    rw [e]
    exact h
theorem sd_P : ∀ (n i a : Nat) (ts : List Tok) (c : Nat), c + n ≤ 4096 → P (sdT a i n ++ ts) 0 false 0 c = PR.pre (sdN a i n) (P ts 0 false 0 (c + n))
  | 0, i, a, ts, c, _ => by rw [sdT, sdN, List.nil_append, pre_nil]; rfl
  | n + 1, i, a, ts, c, hc => by
    rw [sdT, sdN, List.cons_append, List.cons_append, P_step_block (by rintro (⟨_, h⟩ | ⟨_, h⟩) <;> omega) (by omega) rfl, P_end rfl, if_neg (by simp [defT])]
    dsimp only
    rw [if_neg (by simp [enT]), sd_P n (i + 1) _ ts (c + 1) (by omega), cons_pre, show c + 1 + n = c + (n + 1) by omega]
theorem sdN_names : ∀ (n i a : Nat), namesN (sdN a i n) = (List.range' i n).map fun j => ofL (nmB j)
  | 0, i, a => rfl
  | n + 1, i, a => by
    have := sdN_names n (i + 1) (a + (defL i).length + 7)
    rw [sdN, List.range'_succ, List.map_cons, ← this]
    rfl
theorem sdN_calls : ∀ (n i a : Nat), callNs (sdN a i n) = []
  | 0, i, a => by rw [sdN, callNs_nil]
  | n + 1, i, a => by
    rw [sdN, callNs_cons, sdN_calls n, callN_eq]
    simp [nd, NT.k, NT.b, NT.l, callNs_nil, defT]
theorem sdN_nodup {n i a : Nat} (h : i + n ≤ 70) : (namesN (sdN a i n)).Nodup := by
  rw [sdN_names, List.nodup_iff_pairwise_ne, List.pairwise_map]
  have := List.pairwise_lt_range' (s := i) (n := n) (step := 1)
  refine this.imp_of_mem (fun {x y} hx hy hlt e => ?_)
  rw [List.mem_range'] at hx hy
  obtain ⟨_, _, rfl⟩ := hx
  obtain ⟨_, _, rfl⟩ := hy
  have := nm_inj (by omega) (by omega) (ofL_inj e)
  omega
theorem sdN_append : ∀ (n m i a : Nat), sdN a i (n + m) = sdN a i n ++ sdN (a + (sdL i n).length) (i + n) m
  | 0, m, i, a => by simp [sdN, sdL]
  | n + 1, m, i, a => by
    rw [show n + 1 + m = (n + m) + 1 by omega, sdN, sdN, List.cons_append, sdN_append n m (i + 1)]
    have h7 : enL.length = 7 := rfl
    rw [sdL, List.length_append, List.length_append, h7, show i + 1 + n = i + (n + 1) by omega, show a + (defL i).length + 7 + (sdL (i + 1) n).length = a + ((defL i).length + (7 + (sdL (i + 1) n).length)) by omega]
theorem sdL_append : ∀ (n m i : Nat), sdL i (n + m) = sdL i n ++ sdL (i + n) m
  | 0, m, i => by simp [sdL]
  | n + 1, m, i => by rw [show n + 1 + m = (n + m) + 1 by omega, sdL, sdL, sdL_append n m (i + 1), show i + 1 + n = i + (n + 1) by omega, List.append_assoc, List.append_assoc]
theorem sdL_len : ∀ (n i : Nat), (sdL i n).length ≤ 21 * n
  | 0, i => by simp [sdL]
  | n + 1, i => by
    have h7 : enL.length = 7 := rfl
    have := sdL_len n (i + 1)
    rw [sdL, List.length_append, List.length_append, h7, defL_len, nm_len]
    split <;> omega
end Go.Proofs.Yteclclidibmajaa
