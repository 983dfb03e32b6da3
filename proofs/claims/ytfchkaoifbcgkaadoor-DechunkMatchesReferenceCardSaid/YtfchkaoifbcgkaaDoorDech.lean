/-
  The decoder and its reference as lists of bytes: no program is imported here.
-/
import Derived.Test.YtfchkaoifbcgkaaDoorChunk
namespace Go.Proofs.YtfchkaoifbcgkaaDoor
set_option linter.unusedVariables false

/-! ### What Parse says of a piece of a line -/
theorem parse_nil : parseOf [] = (0, 0, 7) := by rw [parse_ref]; rfl
/-- What is truncated is a proper piece of a line. -/
theorem parse_trunc {l : List UInt8} (h : (parseOf l).2.2 = 7) : ∃ n i, n ≤ 65536 ∧ i < (hexLine n).length ∧ l = (hexLine n).take i ∧ l.length = i := by
  unfold parseOf parseAt at h
  split at h
  · simp at h
  · rename_i h0
    split at h
    · simp at h
    · rename_i h1
      split at h
      · rename_i h2
        have hp := List.isPrefixOf_iff_prefix.1 h2
        have he := List.prefix_iff_eq_take.1 hp
        have hle := hp.length_le
        refine ⟨lead 0 l, l.length, by omega, ?_, he, rfl⟩
        rcases Nat.lt_or_ge l.length (hexLine (lead 0 l)).length with h3 | h3
        · exact h3
        · exfalso
          apply h1
          have e2 : l = hexLine (lead 0 l) := by
            rw [List.take_of_length_le h3] at he
            exact he
          rw [List.isPrefixOf_iff_prefix, ← e2]
          exact List.prefix_refl _
      · simp at h
theorem parse_of_take {n i : Nat} (hn : n ≤ 65536) (hi : i < (hexLine n).length) : parseOf ((hexLine n).take i) = (0, 0, 7) := parse_prefix hn hi
theorem parse_seven {l : List UInt8} (h : (parseOf l).2.2 = 7) : parseOf l = (0, 0, 7) := by
  obtain ⟨n, i, hn, hi, he, _⟩ := parse_trunc h
  rw [he]
  exact parse_prefix hn hi
theorem line_le {n : Nat} (h : n ≤ 65536) : (hexLine n).length ≤ 7 := by rw [hexLine_length]; have := hexOf_le h; omega
theorem trunc_le {l : List UInt8} (h : (parseOf l).2.2 = 7) : l.length ≤ 6 := by
  obtain ⟨n, i, hn, hi, _, hl⟩ := parse_trunc h
  have := line_le hn
  omega
/-- A piece of what is truncated is truncated. -/
theorem trunc_part {q r : List UInt8} (h : (parseOf (q ++ r)).2.2 = 7) : parseOf q = (0, 0, 7) := by
  obtain ⟨n, i, hn, hi, he, hl⟩ := parse_trunc h
  have h1 : q = (hexLine n).take q.length := by
    have h2 := congrArg (List.take q.length) he
    rw [List.take_left, List.take_take, List.length_append] at *
    rw [Nat.min_eq_left (by omega)] at h2
    exact h2
  rw [h1]
  refine parse_prefix hn ?_
  rw [List.length_append] at hl
  omega
theorem ok_line {l : List UInt8} {n k : Nat} (h : parseOf l = (n, k, 0)) : n ≤ 65536 ∧ k = (hexLine n).length ∧ ∃ r, l = hexLine n ++ r := by
  obtain ⟨h1, h2, h3, h4⟩ := parse_ok h
  exact ⟨h1, h2, l.drop k, by rw [← h4, List.take_append_drop]⟩
/-- What is accepted stays so. -/
theorem ok_more {q : List UInt8} {n k : Nat} (h : parseOf q = (n, k, 0)) (r : List UInt8) : parseOf (q ++ r) = (n, k, 0) := by
  obtain ⟨h1, h2, t, rfl⟩ := ok_line h
  rw [List.append_assoc, parse_line h1, h2]
/-- Where the whole is accepted, a piece is accepted too or truncated. -/
theorem ok_part {q r : List UInt8} {n k : Nat} (h : parseOf (q ++ r) = (n, k, 0)) : (k ≤ q.length ∧ parseOf q = (n, k, 0)) ∨ (q.length < k ∧ parseOf q = (0, 0, 7)) := by
  obtain ⟨h1, h2, h3, h4⟩ := parse_ok h
  by_cases hk : k ≤ q.length
  · refine .inl ⟨hk, ?_⟩
    rw [List.take_append_of_le_length hk] at h4
    have : q = hexLine n ++ q.drop k := by rw [← h4, List.take_append_drop]
    rw [this, parse_line h1, h2]
  · refine .inr ⟨by omega, ?_⟩
    have h5 := congrArg (List.take q.length) h4
    rw [List.take_take, Nat.min_eq_left (by omega), List.take_left] at h5
    rw [h5]
    exact parse_prefix h1 (by omega)
theorem bad_more {q : List UInt8} (h : (parseOf q).2.2 = 5) (r : List UInt8) : (parseOf (q ++ r)).2.2 = 5 := by
  rcases parse_err (q ++ r) with h1 | ⟨_, _, h1 | h1⟩
  · obtain ⟨⟨n, k, e⟩, hp⟩ : ∃ p, parseOf (q ++ r) = p := ⟨_, rfl⟩
    rw [hp] at h1
    simp only at h1
    subst h1
    rcases ok_part hp with ⟨_, h2⟩ | ⟨_, h2⟩ <;> rw [h2] at h <;> simp at h
  · exact h1
  · rw [trunc_part h1] at h
    simp at h
theorem parse_class (l : List UInt8) : (∃ n k, parseOf l = (n, k, 0) ∧ n ≤ 65536 ∧ k = (hexLine n).length) ∨ parseOf l = (0, 0, 7) ∨ parseOf l = (0, 0, 5) := by
  obtain ⟨⟨n, k, e⟩, hp⟩ : ∃ p, parseOf l = p := ⟨_, rfl⟩
  have h := parse_err l
  rw [hp] at h
  simp only at h
  rcases h with rfl | ⟨rfl, rfl, rfl | rfl⟩
  · obtain ⟨h1, h2, _⟩ := parse_ok hp
    exact .inl ⟨n, k, hp, h1, h2⟩
  · exact .inr (.inr hp)
  · exact .inr (.inl hp)

/-! ### The decoder -/
/-- What a decoder holds: where the next byte belongs (0 between chunks, 1 in a line, 2 in a payload, 3 at the return, 4 at the newline, 5 at the end), the line so far, what the chunk lacks, the sizes, the payload. -/
structure DSt where
  place : Nat
  line : List UInt8
  miss : Nat
  sizes : List Nat
  pay : List UInt8
def DSt.init : DSt := ⟨0, [], 0, [], []⟩
def DSt.begin (s : DSt) (n : Nat) : DSt := ⟨if n = 0 then 3 else 2, [], n, s.sizes ++ [n], s.pay⟩
/-- One byte. -/
def acc (s : DSt) (c : UInt8) : Option DSt :=
  if s.place ≤ 1 then
    (if (parseOf (s.line ++ [c])).2.2 = 0 then some (s.begin (parseOf (s.line ++ [c])).1)
     else if (parseOf (s.line ++ [c])).2.2 = 7 then some ⟨1, s.line ++ [c], s.miss, s.sizes, s.pay⟩ else none)
  else if s.place = 2 then some ⟨if s.miss - 1 = 0 then 3 else 2, s.line, s.miss - 1, s.sizes, s.pay ++ [c]⟩
  else if s.place = 3 then (if c = 13 then some ⟨4, s.line, s.miss, s.sizes, s.pay⟩ else none)
  else if s.place = 4 then (if c = 10 then some ⟨if s.sizes.getLast? = some 0 then 5 else 0, s.line, s.miss, s.sizes, s.pay⟩ else none)
  else none
def runD : DSt → List UInt8 → Option DSt
  | s, [] => some s
  | s, c :: r => match acc s c with
    | some s' => runD s' r
    | none => none
theorem runD_cons (s : DSt) (c : UInt8) (r : List UInt8) : runD s (c :: r) = (acc s c).bind fun s' => runD s' r := by
  rw [runD]; cases acc s c <;> rfl
theorem runD_append (s : DSt) (a b : List UInt8) : runD s (a ++ b) = (runD s a).bind fun s' => runD s' b := by
  induction a generalizing s with
  | nil => rfl
  | cons c a ih =>
    rw [List.cons_append, runD_cons, runD_cons]
    cases h : acc s c with
    | none => rfl
    | some s' => simp only [Option.bind_some]; exact ih s'

theorem acc_line {p : Nat} {l : List UInt8} {m : Nat} {z : List Nat} {y : List UInt8} (hp : p ≤ 1) (c : UInt8) : acc ⟨p, l, m, z, y⟩ c =
    if (parseOf (l ++ [c])).2.2 = 0 then some (DSt.begin ⟨p, l, m, z, y⟩ (parseOf (l ++ [c])).1) else if (parseOf (l ++ [c])).2.2 = 7 then some ⟨1, l ++ [c], m, z, y⟩ else none := by
  unfold acc; rw [if_pos hp]
/-- A line. -/
theorem run_line : ∀ (b l : List UInt8) (p : Nat) (m : Nat) (z : List Nat) (y : List UInt8), p ≤ 1 → parseOf l = (0, 0, 7) → b ≠ [] →
    runD ⟨p, l, m, z, y⟩ b = if (parseOf (l ++ b)).2.2 = 0 then runD (DSt.begin ⟨p, l, m, z, y⟩ (parseOf (l ++ b)).1) (b.drop ((parseOf (l ++ b)).2.1 - l.length))
      else if (parseOf (l ++ b)).2.2 = 7 then some ⟨1, l ++ b, m, z, y⟩ else none
  | [], _, _, _, _, _, _, _, hb => absurd rfl hb
  | c :: b, l, p, m, z, y, hp, hl, _ => by
    have e : l ++ c :: b = (l ++ [c]) ++ b := by simp
    rw [runD_cons, acc_line hp, e]
    rcases parse_class (l ++ [c]) with ⟨n, k, h, hn, hk⟩ | h | h
    · rw [ok_more h, h]
      simp only [if_true, Option.bind_some]
      have hkl : k = l.length + 1 := by
        rcases ok_part h with ⟨_, h1⟩ | ⟨h1, _⟩
        · rw [hl] at h1; simp at h1
        · have h2 := (parse_ok h).2.2.1
          rw [List.length_append, List.length_singleton] at h2
          omega
      rw [hkl, Nat.add_sub_cancel_left]
      rfl
    · rw [h]
      rw [if_neg (show ¬ (7 : Nat) = 0 by omega), if_pos rfl, Option.bind_some]
      by_cases hb : b = []
      · subst hb
        rw [List.append_nil, h]
        simp [runD]
      · rw [run_line b (l ++ [c]) 1 m z y (Nat.le_refl _) h hb]
        rcases parse_class ((l ++ [c]) ++ b) with ⟨n, k, h2, hn, hk⟩ | h2 | h2
        · rw [h2]
          simp only [if_true]
          have hkl : l.length + 1 < k := by
            rcases ok_part h2 with ⟨_, h1⟩ | ⟨h1, _⟩
            · rw [h] at h1; simp at h1
            · simpa using h1
          rw [show k - l.length = (k - (l ++ [c]).length) + 1 by simp; omega, List.drop_succ_cons]
          rfl
        · rw [h2]; simp
        · rw [h2]; simp
    · have h2 := bad_more (q := l ++ [c]) (by rw [h]) b
      rw [h2, h]
      simp
/-- A payload. -/
theorem run_pay : ∀ (b : List UInt8) (m : Nat) (l : List UInt8) (z : List Nat) (y : List UInt8), 0 < m →
    runD ⟨2, l, m, z, y⟩ b = if b.length < m then some ⟨2, l, m - b.length, z, y ++ b⟩ else runD ⟨3, l, 0, z, y ++ b.take m⟩ (b.drop m)
  | [], m, l, z, y, hm => by simp [runD, hm]
  | c :: b, m, l, z, y, hm => by
    have ha : acc ⟨2, l, m, z, y⟩ c = some ⟨if m - 1 = 0 then 3 else 2, l, m - 1, z, y ++ [c]⟩ := by unfold acc; simp
    rw [runD_cons, ha, Option.bind_some]
    by_cases h1 : m = 1
    · subst h1
      simp
    · rw [if_neg (by omega), run_pay b (m - 1) l z (y ++ [c]) (by omega)]
      obtain ⟨q, rfl⟩ : ∃ q, m = q + 1 := ⟨m - 1, by omega⟩
      simp only [Nat.add_sub_cancel, List.length_cons, List.append_assoc, List.singleton_append, List.take_succ_cons, List.drop_succ_cons]
      by_cases h2 : b.length < q
      · rw [if_pos h2, if_pos (by omega), Nat.add_sub_add_right]
      · rw [if_neg h2, if_neg (by omega)]

/-! ### The reference -/
structure Res where
  pay : List UInt8
  sizes : List Nat
  whole : Bool
  complete : Bool
  valid : Bool
def ofGo (y : List UInt8) (z : List Nat) (comp : Bool) (b : List UInt8) : Res :=
  if comp = true then ⟨y, z, true, true, decide (b.length = 0)⟩
  else if hb : b.length = 0 then ⟨y, z, true, false, true⟩
  else if (parseOf b).2.2 = 7 then ⟨y, z, false, false, true⟩
  else if (parseOf b).2.2 ≠ 0 then ⟨y, z, false, false, false⟩
  else if (b.drop (parseOf b).2.1).length < (parseOf b).1 ∨ ((b.drop (parseOf b).2.1).drop (parseOf b).1).length = 0 then ⟨y ++ (b.drop (parseOf b).2.1).take (parseOf b).1, z ++ [(parseOf b).1], false, false, true⟩
  else if ((b.drop (parseOf b).2.1).drop (parseOf b).1).head? ≠ some 13 ∨ (1 < ((b.drop (parseOf b).2.1).drop (parseOf b).1).length ∧ ((b.drop (parseOf b).2.1).drop (parseOf b).1)[1]? ≠ some 10) then ⟨y ++ (b.drop (parseOf b).2.1).take (parseOf b).1, z ++ [(parseOf b).1], false, false, false⟩
  else if ((b.drop (parseOf b).2.1).drop (parseOf b).1).length = 1 then ⟨y ++ (b.drop (parseOf b).2.1).take (parseOf b).1, z ++ [(parseOf b).1], false, false, true⟩
  else ofGo (y ++ (b.drop (parseOf b).2.1).take (parseOf b).1) (z ++ [(parseOf b).1]) (decide ((parseOf b).1 = 0)) (((b.drop (parseOf b).2.1).drop (parseOf b).1).drop 2)
termination_by b.length
decreasing_by simp only [List.length_drop]; omega
def ofL (b : List UInt8) : Res := ofGo [] [] false b

/-- What a decoder shows. -/
def DSt.whole (s : DSt) : Bool := s.place == 0 || s.place == 5
def DSt.complete (s : DSt) : Bool := s.place == 5
def agrees (r : Res) : Option DSt → Prop
  | some s => r.valid = true ∧ r.pay = s.pay ∧ r.sizes = s.sizes ∧ r.whole = s.whole ∧ r.complete = s.complete
  | none => r.valid = false
theorem run_begin {p : Nat} {l : List UInt8} {m : Nat} {z : List Nat} {y : List UInt8} (n : Nat) (b : List UInt8) :
    runD (DSt.begin ⟨p, l, m, z, y⟩ n) b = if b.length < n then some ⟨2, [], n - b.length, z ++ [n], y ++ b⟩ else runD ⟨3, [], 0, z ++ [n], y ++ b.take n⟩ (b.drop n) := by
  unfold DSt.begin
  by_cases h : n = 0
  · subst h; simp
  · rw [if_neg h, run_pay _ _ _ _ _ (by omega)]
theorem run_end (z : List Nat) (n : Nat) (y b : List UInt8) : runD ⟨3, [], 0, z ++ [n], y⟩ b = match b with
    | [] => some ⟨3, [], 0, z ++ [n], y⟩
    | [c] => if c = 13 then some ⟨4, [], 0, z ++ [n], y⟩ else none
    | c :: d :: r => if c = 13 then (if d = 10 then runD ⟨if n = 0 then 5 else 0, [], 0, z ++ [n], y⟩ r else none) else none := by
  match b with
  | [] => rfl
  | [c] =>
    by_cases h : c = 13 <;> simp [runD, acc, h]
  | c :: d :: r =>
    by_cases h : c = 13
    · by_cases h2 : d = 10 <;> simp [runD, acc, h, h2]
    · simp [runD, acc, h]
theorem run_done {z : List Nat} {l : List UInt8} {m : Nat} {y b : List UInt8} : runD ⟨5, l, m, z, y⟩ b = if b.length = 0 then some ⟨5, l, m, z, y⟩ else none := by
  cases b with
  | nil => rfl
  | cons c r => simp [runD, acc]
theorem of_agrees : ∀ (n : Nat) (b y : List UInt8) (z : List Nat) (comp : Bool), b.length ≤ n → agrees (ofGo y z comp b) (runD ⟨if comp then 5 else 0, [], 0, z, y⟩ b) := by
  intro n
  induction n with
  | zero =>
    intro b y z comp h
    obtain rfl : b = [] := List.eq_nil_of_length_eq_zero (by omega)
    rw [ofGo]
    cases comp <;> simp [runD, agrees, DSt.whole, DSt.complete]
  | succ n ih =>
    intro b y z comp h
    cases comp with
    | true =>
      rw [ofGo, if_pos rfl]
      simp only [if_true]
      rw [run_done]
      by_cases hb : b.length = 0 <;> simp [hb, agrees, DSt.whole, DSt.complete]
    | false =>
      rw [ofGo, if_neg (by simp)]
      by_cases hb : b.length = 0
      · obtain rfl : b = [] := List.eq_nil_of_length_eq_zero hb
        simp [runD, agrees, DSt.whole, DSt.complete]
      · rw [dif_neg hb]
        have hne : b ≠ [] := fun e => hb (by rw [e]; rfl)
        simp only [Bool.false_eq_true, if_false]
        rw [run_line b [] 0 0 z y (by omega) parse_nil hne, List.nil_append]
        rcases parse_class b with ⟨v, k, h1, hv, hk⟩ | h1 | h1
        · rw [h1]
          simp only [List.length_nil, Nat.sub_zero, if_true]
          rw [if_neg (show ¬ (0 : Nat) = 7 by omega), if_neg (show ¬ (0 : Nat) ≠ 0 by omega), run_begin]
          have hkb := (parse_ok h1).2.2.1
          have hk0 : 0 < k := by rw [hk, hexLine_length]; omega
          have hlen : (b.drop k).length < b.length := by rw [List.length_drop]; omega
          generalize b.drop k = b1 at hlen ⊢
          by_cases hl : b1.length < v
          · rw [if_pos (.inl hl), if_pos hl]
            simp [agrees, DSt.whole, DSt.complete, List.take_of_length_le (Nat.le_of_lt hl)]
          · rw [if_neg hl, run_end]
            have hlen2 : (b1.drop v).length ≤ b1.length := by rw [List.length_drop]; omega
            generalize b1.drop v = b2 at hlen2 ⊢
            match b2, hlen2 with
            | [], _ =>
              rw [if_pos (.inr rfl)]
              simp [agrees, DSt.whole, DSt.complete]
            | [c], _ =>
              rw [if_neg (by simp; omega)]
              by_cases hc : c = 13
              · subst hc
                simp [agrees, DSt.whole, DSt.complete]
              · simp [agrees, hc]
            | c :: d :: r, hlen2 =>
              rw [if_neg (by simp; omega)]
              by_cases hc : c = 13
              · subst hc
                by_cases hd : d = 10
                · subst hd
                  rw [if_neg (by simp), if_neg (by simp)]
                  have := ih r (y ++ b1.take v) (z ++ [v]) (decide (v = 0)) (by simp at hlen2; omega)
                  simpa using this
                · simp [agrees, hd]
              · simp [agrees, hc]
        · rw [h1]
          simp [agrees, DSt.whole, DSt.complete]
        · rw [h1]
          simp [agrees]
theorem ofL_agrees (b : List UInt8) : agrees (ofL b) (runD DSt.init b) := of_agrees _ b [] [] false (Nat.le_refl _)

/-! ### What every decoder keeps -/
structure Good (s : DSt) (o : Nat) : Prop where
  place : s.place ≤ 5
  line : parseOf s.line = (0, 0, 7)
  empty : 2 ≤ s.place → s.line = []
  miss : s.miss ≤ 65536
  pos : s.place = 2 → 0 < s.miss
  sizes : 2 ≤ s.place → s.sizes ≠ []
  count : s.sizes.length ≤ o
  bytes : s.pay.length ≤ o
  small : ∀ n, n ∈ s.sizes → n ≤ 65536
theorem good_init : Good DSt.init 0 := ⟨by simp [DSt.init], parse_nil, by simp [DSt.init], by simp [DSt.init], by simp [DSt.init], by simp [DSt.init], by simp [DSt.init], by simp [DSt.init], by simp [DSt.init]⟩
theorem Good.lineLe {s : DSt} {o : Nat} (h : Good s o) : s.line.length ≤ 6 := trunc_le (by rw [h.line])
theorem Good.step {s s' : DSt} {o : Nat} {c : UInt8} (h : Good s o) (ha : acc s c = some s') : Good s' (o + 1) := by
  obtain ⟨p, l, m, z, y⟩ := s
  have h1 := h.place; have h2 := h.line; have h2' := h.empty; have h3 := h.miss; have h4 := h.pos; have h5 := h.sizes; have h6 := h.count; have h7 := h.bytes; have h8 := h.small
  simp only at h1 h2 h2' h3 h4 h5 h6 h7 h8
  unfold acc at ha
  simp only at ha
  split at ha
  · rcases parse_class (l ++ [c]) with ⟨n, k, e, hn, hk⟩ | e | e
    · rw [e] at ha
      simp only [if_true, Option.some.injEq] at ha
      subst ha
      unfold DSt.begin
      have h9 : ∀ i, i ∈ z ++ [n] → i ≤ 65536 := fun i hi => by
        rcases List.mem_append.1 hi with h | h
        · exact h8 i h
        · obtain rfl : i = n := by simpa using h
          exact hn
      by_cases h0 : n = 0
      · subst h0; exact ⟨by simp, parse_nil, by simp, by simp, by simp, by simp, by simp; omega, by simp; omega, h9⟩
      · exact ⟨by simp [h0], parse_nil, by simp, by simpa using hn, by simp [h0]; omega, by simp, by simp; omega, by simp; omega, h9⟩
    · rw [e] at ha
      simp at ha
      subst ha
      exact ⟨by simp, e, by simp, h3, by simp, by simp, by simp; omega, by simp; omega, h8⟩
    · rw [e] at ha
      simp at ha
  · split at ha
    · simp only [Option.some.injEq] at ha
      subst ha
      refine ⟨?_, h2, fun _ => h2' (by omega), by simp; omega, ?_, fun _ => h5 (by omega), by simp; omega, by simp; omega, h8⟩
      · simp only; split <;> omega
      · simp only; split <;> omega
    · split at ha
      · split at ha
        · simp only [Option.some.injEq] at ha
          subst ha
          exact ⟨by simp, h2, fun _ => h2' (by omega), h3, by simp, fun _ => h5 (by omega), by simp; omega, by simp; omega, h8⟩
        · cases ha
      · split at ha
        · split at ha
          · simp only [Option.some.injEq] at ha
            subst ha
            refine ⟨?_, h2, fun _ => h2' (by omega), h3, ?_, fun _ => h5 (by omega), by simp; omega, by simp; omega, h8⟩
            · simp only; split <;> omega
            · simp only; split <;> omega
          · cases ha
        · cases ha
theorem Good.run {s s' : DSt} {o : Nat} {b : List UInt8} (h : Good s o) (hr : runD s b = some s') : Good s' (o + b.length) := by
  induction b generalizing s o with
  | nil => injection hr with hr; subst hr; exact h
  | cons c b ih =>
    rw [runD_cons] at hr
    cases ha : acc s c with
    | none => rw [ha] at hr; cases hr
    | some s1 =>
      rw [ha] at hr
      have := ih (h.step ha) hr
      rw [List.length_cons]
      rwa [show o + (b.length + 1) = o + 1 + b.length by omega]

/-! ### Feed -/
def errOf (s : DSt) : Nat := if s.place = 5 then 8 else 5
/-- The decoder, the number of its bytes, its error. -/
def feedS : DSt → Nat → Nat → List UInt8 → DSt × Nat × Nat
  | s, o, e, [] => (s, o, e)
  | s, o, e, c :: r => if e = 0 then (match acc s c with
      | some s' => feedS s' (o + 1) 0 r
      | none => (s, o, errOf s)) else (s, o, e)
theorem feedS_err {s : DSt} {o e : Nat} (he : e ≠ 0) : ∀ r, feedS s o e r = (s, o, e)
  | [] => rfl
  | c :: r => by rw [feedS, if_neg he]
theorem feedS_some {s s' : DSt} {o : Nat} {c : UInt8} {r : List UInt8} (h : acc s c = some s') : feedS s o 0 (c :: r) = feedS s' (o + 1) 0 r := by rw [feedS, if_pos rfl, h]
theorem feedS_none {s : DSt} {o : Nat} {c : UInt8} {r : List UInt8} (h : acc s c = none) : feedS s o 0 (c :: r) = (s, o, errOf s) := by rw [feedS, if_pos rfl, h]
theorem errOf_ne (s : DSt) : errOf s ≠ 0 := by unfold errOf; split <;> omega
theorem errOf_le (s : DSt) : errOf s ≤ 8 := by unfold errOf; split <;> omega
theorem feedS_append (s : DSt) (o e : Nat) (a b : List UInt8) : feedS s o e (a ++ b) = feedS (feedS s o e a).1 (feedS s o e a).2.1 (feedS s o e a).2.2 b := by
  induction a generalizing s o e with
  | nil => rfl
  | cons c a ih =>
    by_cases he : e = 0
    · subst he
      cases ha : acc s c with
      | none => rw [List.cons_append, feedS_none ha, feedS_none ha, feedS_err (errOf_ne s)]
      | some s1 => rw [List.cons_append, feedS_some ha, feedS_some ha, ih]
    · rw [feedS_err he, feedS_err he, feedS_err he]
/-- Where all is accepted. -/
theorem feedS_run {s s' : DSt} {b : List UInt8} (h : runD s b = some s') (o : Nat) : feedS s o 0 b = (s', o + b.length, 0) := by
  induction b generalizing s o with
  | nil => injection h with h; subst h; rfl
  | cons c b ih =>
    rw [runD_cons] at h
    cases ha : acc s c with
    | none => rw [ha] at h; cases h
    | some s1 =>
      rw [ha] at h
      rw [feedS_some ha, ih h, List.length_cons, show o + 1 + b.length = o + (b.length + 1) by omega]
/-- Where something is not: the longest piece that is. -/
theorem feedS_stop {s : DSt} {b : List UInt8} (h : runD s b = none) (o : Nat) : ∃ i s', i < b.length ∧ runD s (b.take i) = some s' ∧ feedS s o 0 b = (s', o + i, errOf s') := by
  induction b generalizing s o with
  | nil => cases h
  | cons c b ih =>
    rw [runD_cons] at h
    cases ha : acc s c with
    | none => exact ⟨0, s, by simp, rfl, feedS_none ha⟩
    | some s1 =>
      rw [ha] at h
      obtain ⟨i, s', hi, hr, hf⟩ := ih h (o + 1)
      exact ⟨i + 1, s', by simpa using hi, by rw [List.take_succ_cons, runD_cons, ha]; exact hr, by rw [feedS_some ha, hf, show o + 1 + i = o + (i + 1) by omega]⟩
theorem feedS_ok {s s' : DSt} {o o' : Nat} {b : List UInt8} (h : feedS s o 0 b = (s', o', 0)) : runD s b = some s' ∧ o' = o + b.length := by
  cases hr : runD s b with
  | none =>
    obtain ⟨i, s2, _, _, h2⟩ := feedS_stop hr o
    rw [h2] at h
    simp only [Prod.mk.injEq] at h
    exact absurd h.2.2 (errOf_ne _)
  | some s2 =>
    rw [feedS_run hr] at h
    simp only [Prod.mk.injEq] at h
    exact ⟨by rw [h.1], h.2.1.symm⟩
/-- What is kept by a decoder that was fed. -/
structure Kept (s : DSt) (o e : Nat) (B : List UInt8) : Prop where
  run : runD DSt.init B = some s
  len : B.length = o
theorem Kept.good {s : DSt} {o e : Nat} {B : List UInt8} (h : Kept s o e B) : Good s o := by
  have := good_init.run h.run
  rw [h.len, Nat.zero_add] at this
  exact this

/-! ### The reference's Feed -/
def feedR : List UInt8 → Nat → List UInt8 → List UInt8 × Nat
  | B, e, [] => (B, e)
  | B, e, c :: r => if e = 0 then (if (ofL (B ++ [c])).valid = true then feedR (B ++ [c]) 0 r else (B, if (ofL B).complete = true then 8 else 5)) else (B, e)
theorem feedR_err {B : List UInt8} {e : Nat} (he : e ≠ 0) : ∀ r, feedR B e r = (B, e)
  | [] => rfl
  | c :: r => by rw [feedR, if_neg he]
theorem feed_same : ∀ (r : List UInt8) (s : DSt) (o e : Nat) (B : List UInt8), Kept s o e B → ∃ s' o' e' B', feedS s o e r = (s', o', e') ∧ feedR B e r = (B', e') ∧ Kept s' o' e' B' ∧ o' ≤ o + r.length ∧ (e' = e ∨ e' = 5 ∨ e' = 8)
  | [], s, o, e, B, h => ⟨s, o, e, B, rfl, rfl, h, by simp, .inl rfl⟩
  | c :: r, s, o, e, B, h => by
    by_cases he : e = 0
    · subst he
      have hA := ofL_agrees B
      rw [h.run] at hA
      have hB := ofL_agrees (B ++ [c])
      rw [runD_append, h.run, Option.bind_some, runD_cons] at hB
      cases ha : acc s c with
      | none =>
        rw [ha] at hB
        refine ⟨s, o, errOf s, B, feedS_none ha, ?_, ⟨h.run, h.len⟩, by simp, ?_⟩
        · rw [feedR, if_pos rfl, if_neg (by rw [show (ofL (B ++ [c])).valid = false from hB]; simp), hA.2.2.2.2]
          unfold errOf DSt.complete
          simp
        · unfold errOf; split <;> simp
      | some s1 =>
        rw [ha] at hB
        have h1 : Kept s1 (o + 1) 0 (B ++ [c]) := ⟨by rw [runD_append, h.run, Option.bind_some, runD_cons, ha]; rfl, by simp [h.len]⟩
        obtain ⟨s', o', e', B', h2, h3, h4, h5, h6⟩ := feed_same r s1 (o + 1) 0 (B ++ [c]) h1
        refine ⟨s', o', e', B', by rw [feedS_some ha, h2], ?_, h4, by simp; omega, h6⟩
        rw [feedR, if_pos rfl, if_pos (show (ofL (B ++ [c])).valid = true from hB.1), h3]
    · exact ⟨s, o, e, B, feedS_err he _, feedR_err he _, h, by simp, .inl rfl⟩

/-! ### The laws, as lists -/
theorem acc_pay {s s' : DSt} {c : UInt8} (h : acc s c = some s') : s.pay <+: s'.pay := by
  obtain ⟨p, l, m, z, y⟩ := s
  unfold acc at h
  simp only at h
  split at h
  · split at h
    · injection h with h; subst h; exact List.prefix_refl _
    · split at h
      · injection h with h; subst h; exact List.prefix_refl _
      · cases h
  · split at h
    · injection h with h; subst h; exact List.prefix_append _ _
    · split at h
      · split at h
        · injection h with h; subst h; exact List.prefix_refl _
        · cases h
      · split at h
        · split at h
          · injection h with h; subst h; exact List.prefix_refl _
          · cases h
        · cases h
theorem run_prefix {s s' : DSt} {b : List UInt8} (h : runD s b = some s') : s.pay <+: s'.pay := by
  induction b generalizing s with
  | nil => injection h with h; subst h; exact List.prefix_refl _
  | cons c b ih =>
    rw [runD_cons] at h
    cases ha : acc s c with
    | none => rw [ha] at h; cases h
    | some s1 => rw [ha] at h; exact (acc_pay ha).trans (ih h)
theorem run_chunk {p : List UInt8} (hp : p.length ≤ 65536) (z : List Nat) (y r : List UInt8) :
    runD ⟨0, [], 0, z, y⟩ (chunkOf p ++ r) = runD ⟨if p.length = 0 then 5 else 0, [], 0, z ++ [p.length], y ++ p⟩ r := by
  have e : chunkOf p ++ r = hexLine p.length ++ (p ++ (13 :: 10 :: r)) := by simp [chunkOf]
  have h1 := parse_line hp (p ++ (13 :: 10 :: r))
  have hne : chunkOf p ++ r ≠ [] := fun h => by
    have := congrArg List.length h
    have h2 := chunkOf_pos p
    rw [List.length_append, List.length_nil] at this
    omega
  rw [run_line _ [] 0 0 z y (by omega) parse_nil hne, List.nil_append, e, h1]
  simp only [if_true, List.length_nil, Nat.sub_zero]
  rw [List.drop_left, run_begin, if_neg (by simp), List.drop_left, List.take_left, run_end]
  simp
theorem run_chunks {k : Nat} (hk : 0 < k) (hk2 : k ≤ 65536) : ∀ (n : Nat) (l : List UInt8) (z : List Nat) (y r : List UInt8), l.length ≤ n →
    ∃ z', runD ⟨0, [], 0, z, y⟩ (chunksOf k l ++ r) = runD ⟨0, [], 0, z', y ++ l⟩ r := by
  intro n
  induction n with
  | zero =>
    intro l z y r h
    obtain rfl : l = [] := List.eq_nil_of_length_eq_zero (by omega)
    exact ⟨z, by rw [chunksOf_nil]; simp⟩
  | succ n ih =>
    intro l z y r h
    rcases Nat.eq_zero_or_pos l.length with h0 | h0
    · obtain rfl : l = [] := List.eq_nil_of_length_eq_zero h0
      exact ⟨z, by rw [chunksOf_nil]; simp⟩
    · obtain ⟨z', hz⟩ := ih (l.drop k) (z ++ [(l.take k).length]) (y ++ l.take k) r (by simp; omega)
      refine ⟨z', ?_⟩
      rw [chunksOf_pos hk h0, List.append_assoc, run_chunk (by rw [List.length_take]; omega), if_neg (by rw [List.length_take]; omega), hz, List.append_assoc, List.take_append_drop]
/-- Decoding inverts encoding. -/
theorem run_body {k : Nat} (hk : 0 < k) (hk2 : k ≤ 65536) (l : List UInt8) : ∃ z, runD DSt.init (bodyOf k l) = some ⟨5, [], 0, z, l⟩ := by
  obtain ⟨z, hz⟩ := run_chunks hk hk2 l.length l [] [] (chunkOf []) (Nat.le_refl _)
  refine ⟨z ++ [0], ?_⟩
  rw [bodyOf]
  refine hz.trans ?_
  have := run_chunk (p := []) (by simp) z ([] ++ l) []
  simpa [runD] using this
/-- A piece of what is accepted is accepted. -/
theorem run_take {s s' : DSt} {b : List UInt8} (h : runD s b = some s') (i : Nat) : ∃ s1, runD s (b.take i) = some s1 ∧ runD s1 (b.drop i) = some s' := by
  have h1 := runD_append s (b.take i) (b.drop i)
  rw [List.take_append_drop, h] at h1
  cases h2 : runD s (b.take i) with
  | none => rw [h2] at h1; cases h1
  | some s1 => rw [h2] at h1; exact ⟨s1, rfl, h1.symm⟩
/-- A proper piece of a body is not complete; its payload is a piece of the payload. -/
theorem run_cut {k : Nat} (hk : 0 < k) (hk2 : k ≤ 65536) {l : List UInt8} {i : Nat} (hi : i < (bodyOf k l).length) : ∃ s, runD DSt.init ((bodyOf k l).take i) = some s ∧ s.complete = false ∧ s.pay <+: l := by
  obtain ⟨z, hz⟩ := run_body hk hk2 l
  obtain ⟨s, h1, h2⟩ := run_take hz i
  refine ⟨s, h1, ?_, run_prefix h2⟩
  obtain ⟨p, l', m, z', y⟩ := s
  unfold DSt.complete
  cases hd : (bodyOf k l).drop i with
  | nil => have := congrArg List.length hd; simp at this; omega
  | cons c r =>
    rw [hd] at h2
    simp only [beq_eq_false_iff_ne]
    rintro rfl
    rw [run_done] at h2
    simp at h2
end Go.Proofs.YtfchkaoifbcgkaaDoor
