/-
  Layer 6 as lists, of no program: encoding, and what becomes of decoded runes when they are encoded again.
-/
import Derived.Test.YtbpmhleokmcggaaDoorUni
namespace Go.Proofs.YtbpmhleokmcggaaDoor
set_option linter.unusedVariables false
set_option linter.unusedSimpArgs false
/-! ### encoding -/
def cp (r : Int) : Nat := if Utf8.valid r then r.toNat else 65533
def encN (c : Nat) : List UInt8 :=
  if c < 128 then [UInt8.ofNat c]
  else if c < 2048 then [UInt8.ofNat (192 + c / 64), UInt8.ofNat (128 + c % 64)]
  else if c < 65536 then [UInt8.ofNat (224 + c / 4096), UInt8.ofNat (128 + c / 64 % 64), UInt8.ofNat (128 + c % 64)]
  else [UInt8.ofNat (240 + c / 262144), UInt8.ofNat (128 + c / 4096 % 64), UInt8.ofNat (128 + c / 64 % 64), UInt8.ofNat (128 + c % 64)]
def encL (l : List Int) : List UInt8 := l.flatMap fun r => encN (cp r)
theorem encode_encN (r : Int) : Utf8.encode r = ⟨(encN (cp r)).toArray⟩ := by
  unfold Utf8.encode encN cp Utf8.runeError
  simp only
  generalize (if Utf8.valid r = true then r.toNat else 65533) = c
  split
  · rfl
  split
  · rfl
  split
  · rfl
  · rfl
def okC (c : Nat) : Prop := c < 55296 ∨ (57344 ≤ c ∧ c ≤ 1114111)
theorem cp_ok (r : Int) : okC (cp r) := by
  unfold cp okC
  split
  · rename_i h
    simp [Utf8.valid] at h
    omega
  · omega
theorem cp_of_ok {c : Nat} (h : okC c) : cp (c : Int) = c := by
  unfold cp
  unfold okC at h
  rw [if_pos (by simp [Utf8.valid]; omega)]
  simp
theorem dk_ok (l : List UInt8) : okC (dk l).1 := by
  have h0 := bt_lt l 0; have h1 := bt_lt l 1; have h2 := bt_lt l 2; have h3 := bt_lt l 3
  unfold dk Lib.decodeN okC
  repeat' split
  all_goals simp only
  all_goals omega
theorem u8n {n : Nat} (h : n < 256) : (UInt8.ofNat n).toNat = n := by simp; omega
/-- The encoding at the start of a string. -/
theorem fst_enc {c : Nat} (h : okC c) (t : List UInt8) : fst (encN c ++ t) = ((encN c).length, false) ∧ dk (encN c ++ t) = (c, (encN c).length) := by
  unfold okC at h
  have key : ∀ (e : List UInt8) (he : e ≠ []), (fst e).1 = e.length → val e.length e = c → (fst e).2 = false → fst (e ++ t) = (e.length, false) ∧ dk (e ++ t) = (c, e.length) := by
    intro e he h1 h2 h3
    have hp := len_pos he
    refine ⟨?_, ?_⟩
    · rw [fst_append t he h3]; exact Prod.ext h1 h3
    · rw [dk_append t he h3, dk_fst he]
      unfold res
      rw [if_neg (by omega), h1, h2]
  unfold encN
  by_cases c1 : c < 128
  · simp only [c1, if_true]
    have e0 : bt [UInt8.ofNat c] 0 = c := u8n (by omega)
    refine key _ (by simp) ?_ ?_ ?_
    · unfold fst firstN; rw [e0]; simp [c1]
    · unfold val valueN; rw [e0]; simp
    · unfold fst firstN; rw [e0]; simp [c1]
  · by_cases c2 : c < 2048
    · simp only [c1, c2, if_true, if_false]
      have e0 : bt [UInt8.ofNat (192 + c / 64), UInt8.ofNat (128 + c % 64)] 0 = 192 + c / 64 := u8n (by omega)
      have e1 : bt [UInt8.ofNat (192 + c / 64), UInt8.ofNat (128 + c % 64)] 1 = 128 + c % 64 := u8n (by omega)
      have hf : fst [UInt8.ofNat (192 + c / 64), UInt8.ofNat (128 + c % 64)] = (2, false) := by
        unfold fst firstN
        rw [e0, e1]
        have s1 := szT2 (b := 192 + c / 64) (by omega)
        have s2 := loT1 (b := 192 + c / 64) (by omega) (by omega)
        have s3 := hiT1 (b := 192 + c / 64) (by omega) (by omega)
        rw [s1, s2, s3, if_neg (by simp), if_neg (by omega), if_neg (by omega)]
        unfold firstC
        rw [if_neg (by simp), if_neg (by omega), if_pos (by omega)]
      refine key _ (by simp) (by rw [hf]; rfl) ?_ (by rw [hf])
      unfold val valueN
      rw [e0, e1]
      simp
      omega
    · by_cases c3 : c < 65536
      · simp only [c1, c2, c3, if_true, if_false]
        generalize hE : [UInt8.ofNat (224 + c / 4096), UInt8.ofNat (128 + c / 64 % 64), UInt8.ofNat (128 + c % 64)] = E
        have e0 : bt E 0 = 224 + c / 4096 := by subst hE; exact u8n (by omega)
        have e1 : bt E 1 = 128 + c / 64 % 64 := by subst hE; exact u8n (by omega)
        have e2 : bt E 2 = 128 + c % 64 := by subst hE; exact u8n (by omega)
        have el : E.length = 3 := by subst hE; rfl
        have en : E ≠ [] := by subst hE; simp
        have hf : fst E = (3, false) := by
          unfold fst firstN
          rw [e0, e1, e2, el]
          have s1 := szT3 (b := 224 + c / 4096) (by omega)
          rw [s1, if_neg en, if_neg (by omega), if_neg (by omega)]
          unfold firstC
          rw [if_neg (by omega), if_neg ?_, if_neg (by omega), if_neg (by omega), if_neg (by omega), if_pos (by omega)]
          unfold loT hiT
          repeat' split
          all_goals omega
        refine key _ en (by rw [hf, el]) ?_ (by rw [hf])
        unfold val valueN
        rw [e0, e1, e2, el]
        simp
        omega
      · simp only [c1, c2, c3, if_true, if_false]
        generalize hE : [UInt8.ofNat (240 + c / 262144), UInt8.ofNat (128 + c / 4096 % 64), UInt8.ofNat (128 + c / 64 % 64), UInt8.ofNat (128 + c % 64)] = E
        have e0 : bt E 0 = 240 + c / 262144 := by subst hE; exact u8n (by omega)
        have e1 : bt E 1 = 128 + c / 4096 % 64 := by subst hE; exact u8n (by omega)
        have e2 : bt E 2 = 128 + c / 64 % 64 := by subst hE; exact u8n (by omega)
        have e3 : bt E 3 = 128 + c % 64 := by subst hE; exact u8n (by omega)
        have el : E.length = 4 := by subst hE; rfl
        have en : E ≠ [] := by subst hE; simp
        have hf : fst E = (4, false) := by
          unfold fst firstN
          rw [e0, e1, e2, e3, el]
          have s1 := szT4 (b := 240 + c / 262144) (by omega)
          rw [s1, if_neg en, if_neg (by omega), if_neg (by omega)]
          unfold firstC
          rw [if_neg (by omega), if_neg ?_, if_neg (by omega), if_neg (by omega), if_neg (by omega), if_neg (by omega), if_neg (by omega), if_neg (by omega)]
          unfold loT hiT
          repeat' split
          all_goals omega
        refine key _ en (by rw [hf, el]) ?_ (by rw [hf])
        unfold val valueN
        rw [e0, e1, e2, e3, el]
        simp
        omega
theorem encN_ne (c : Nat) : encN c ≠ [] := by
  unfold encN
  repeat' split
  all_goals simp
theorem encN_length (c : Nat) : 1 ≤ (encN c).length ∧ (encN c).length ≤ 4 := by
  unfold encN
  repeat' split
  all_goals simp
theorem bt_list {l e : List UInt8} (hl : l.length = e.length) (h : ∀ j, j < e.length → bt l j = bt e j) : l = e := by
  refine List.ext_getElem hl fun i h1 h2 => ?_
  have := h i h2
  unfold bt at this
  rw [List.getD_eq_getElem?_getD, List.getD_eq_getElem?_getD, List.getElem?_eq_getElem h1, List.getElem?_eq_getElem h2] at this
  exact UInt8.toNat_inj.1 this
set_option maxHeartbeats 2000000 in
/-- A valid encoding at the start is the encoding of what is decoded. -/
theorem enc_dk {l : List UInt8} (hl : l ≠ []) (h : (fst l).1 ≠ 0) : encN (dk l).1 = l.take (dk l).2 := by
  have h0 := bt_lt l 0; have h1 := bt_lt l 1; have h2 := bt_lt l 2; have h3 := bt_lt l 3
  have hle := fst_le l
  rw [dk_valid hl h]
  show encN (val (fst l).1 l) = l.take (fst l).1
  have fin : ∀ e : List UInt8, e.length = (fst l).1 → (∀ j, j < e.length → bt l j = bt e j) → e = l.take (fst l).1 := by
    intro e he hj
    refine (bt_list (by simp; omega) fun j hj' => ?_).symm
    rw [bt_take l (by omega)]
    exact hj j hj'
  revert h fin
  unfold val
  unfold fst
  rw [if_neg hl]
  unfold firstN
  by_cases g0 : bt l 0 < 128
  · simp only [g0, if_true]
    intro _ fin
    refine fin _ (by simp [encN, valueN, g0]) ?_
    simp only [encN, valueN, g0, if_true]
    intro j hj
    have : j = 0 := by simp at hj; omega
    subst this
    exact (u8n h0).symm
  by_cases g1 : szT (bt l 0) = 0
  · simp only [g0, g1, if_true, if_false]
    intro h; exact absurd rfl h
  simp only [g0, g1, if_false]
  have hlo := (loT_ge (bt l 0)).1
  have hhi := (hiT_le (bt l 0)).1
  unfold firstC
  split
  · intro h; exact absurd rfl h
  split
  · intro h; exact absurd rfl h
  rename_i q1 q2
  split
  · rename_i q3
    intro _ fin
    have hb : 194 ≤ bt l 0 ∧ bt l 0 < 224 := by
      revert q3 g1; unfold szT; repeat' split
      all_goals omega
    have hv : valueN 2 (bt l 0) (bt l 1) (bt l 2) (bt l 3) = (bt l 0 - 192) * 64 + (bt l 1 - 128) := by simp [valueN]
    simp only at fin ⊢
    rw [hv]
    have ha : ¬ (bt l 0 - 192) * 64 + (bt l 1 - 128) < 128 := by omega
    have hc : (bt l 0 - 192) * 64 + (bt l 1 - 128) < 2048 := by omega
    have he : encN ((bt l 0 - 192) * 64 + (bt l 1 - 128)) = [UInt8.ofNat (bt l 0), UInt8.ofNat (bt l 1)] := by
      unfold encN
      have a0 : 192 + ((bt l 0 - 192) * 64 + (bt l 1 - 128)) / 64 = bt l 0 := by omega
      have a1 : 128 + ((bt l 0 - 192) * 64 + (bt l 1 - 128)) % 64 = bt l 1 := by omega
      rw [if_neg ha, if_pos hc, a0, a1]
    rw [he]
    refine fin _ rfl ?_
    intro j hj
    have : j = 0 ∨ j = 1 := by simp at hj; omega
    rcases this with rfl | rfl
    · exact (u8n h0).symm
    · exact (u8n h1).symm
  split
  · intro h; exact absurd rfl h
  split
  · intro h; exact absurd rfl h
  rename_i q3 q4 q5
  split
  · rename_i q6
    intro _ fin
    have hb : 224 ≤ bt l 0 ∧ bt l 0 < 240 := by
      revert q3 q6 g1; unfold szT; repeat' split
      all_goals omega
    have hv : valueN 3 (bt l 0) (bt l 1) (bt l 2) (bt l 3) = (bt l 0 - 224) * 4096 + (bt l 1 - 128) * 64 + (bt l 2 - 128) := by simp [valueN]
    simp only at fin ⊢
    rw [hv]
    have ha : ¬ (bt l 0 - 224) * 4096 + (bt l 1 - 128) * 64 + (bt l 2 - 128) < 2048 := by
      by_cases b224 : bt l 0 = 224
      · have : loT (bt l 0) = 160 := by simp [loT, b224]
        omega
      · omega
    have hc : (bt l 0 - 224) * 4096 + (bt l 1 - 128) * 64 + (bt l 2 - 128) < 65536 := by omega
    have he : encN ((bt l 0 - 224) * 4096 + (bt l 1 - 128) * 64 + (bt l 2 - 128)) = [UInt8.ofNat (bt l 0), UInt8.ofNat (bt l 1), UInt8.ofNat (bt l 2)] := by
      unfold encN
      have a0 : 224 + ((bt l 0 - 224) * 4096 + (bt l 1 - 128) * 64 + (bt l 2 - 128)) / 4096 = bt l 0 := by omega
      have a1 : 128 + ((bt l 0 - 224) * 4096 + (bt l 1 - 128) * 64 + (bt l 2 - 128)) / 64 % 64 = bt l 1 := by omega
      have a2 : 128 + ((bt l 0 - 224) * 4096 + (bt l 1 - 128) * 64 + (bt l 2 - 128)) % 64 = bt l 2 := by omega
      rw [if_neg (by omega), if_neg ha, if_pos hc, a0, a1, a2]
    rw [he]
    refine fin _ rfl ?_
    intro j hj
    have : j = 0 ∨ j = 1 ∨ j = 2 := by simp at hj; omega
    rcases this with rfl | rfl | rfl
    · exact (u8n h0).symm
    · exact (u8n h1).symm
    · exact (u8n h2).symm
  split
  · intro h; exact absurd rfl h
  split
  · intro h; exact absurd rfl h
  rename_i q6 q7 q8
  intro _ fin
  have hb : 240 ≤ bt l 0 ∧ bt l 0 ≤ 244 := by
    revert q3 q6 g1; unfold szT; repeat' split
    all_goals omega
  have hv : valueN 4 (bt l 0) (bt l 1) (bt l 2) (bt l 3) = (bt l 0 - 240) * 262144 + (bt l 1 - 128) * 4096 + (bt l 2 - 128) * 64 + (bt l 3 - 128) := by simp [valueN]
  simp only at fin ⊢
  rw [hv]
  have ha : ¬ (bt l 0 - 240) * 262144 + (bt l 1 - 128) * 4096 + (bt l 2 - 128) * 64 + (bt l 3 - 128) < 65536 := by
    by_cases b240 : bt l 0 = 240
    · have : loT (bt l 0) = 144 := by simp [loT, b240]
      omega
    · omega
  have he : encN ((bt l 0 - 240) * 262144 + (bt l 1 - 128) * 4096 + (bt l 2 - 128) * 64 + (bt l 3 - 128)) = [UInt8.ofNat (bt l 0), UInt8.ofNat (bt l 1), UInt8.ofNat (bt l 2), UInt8.ofNat (bt l 3)] := by
    unfold encN
    have a0 : 240 + ((bt l 0 - 240) * 262144 + (bt l 1 - 128) * 4096 + (bt l 2 - 128) * 64 + (bt l 3 - 128)) / 262144 = bt l 0 := by omega
    have a1 : 128 + ((bt l 0 - 240) * 262144 + (bt l 1 - 128) * 4096 + (bt l 2 - 128) * 64 + (bt l 3 - 128)) / 4096 % 64 = bt l 1 := by omega
    have a2 : 128 + ((bt l 0 - 240) * 262144 + (bt l 1 - 128) * 4096 + (bt l 2 - 128) * 64 + (bt l 3 - 128)) / 64 % 64 = bt l 2 := by omega
    have a3 : 128 + ((bt l 0 - 240) * 262144 + (bt l 1 - 128) * 4096 + (bt l 2 - 128) * 64 + (bt l 3 - 128)) % 64 = bt l 3 := by omega
    rw [if_neg (by omega), if_neg (by omega), if_neg ha, a0, a1, a2, a3]
  rw [he]
  refine fin _ rfl ?_
  intro j hj
  have : j = 0 ∨ j = 1 ∨ j = 2 ∨ j = 3 := by simp at hj; omega
  rcases this with rfl | rfl | rfl | rfl
  · exact (u8n h0).symm
  · exact (u8n h1).symm
  · exact (u8n h2).symm
  · exact (u8n h3).symm
/-- The runes of a string, as integers. -/
def ints : List Nat → List Int := List.map Int.ofNat
theorem encL_cons (r : Int) (l : List Int) : encL (r :: l) = encN (cp r) ++ encL l := by simp [encL]
theorem encL_append (a b : List Int) : encL (a ++ b) = encL a ++ encL b := by simp [encL]
theorem encL_valid (l : List Int) : valL (encL l) = true := by
  induction l with
  | nil => exact valL_nil
  | cons r l ih =>
    rw [encL_cons, valL_step (by simp [encN_ne])]
    obtain ⟨f1, f2⟩ := fst_enc (cp_ok r) (encL l)
    have hp := encN_length (cp r)
    rw [f1, f2, if_neg (show ¬ (encN (cp r)).length = 0 by omega)]
    simpa using ih
theorem decL_encL (l : List Nat) (h : ∀ c ∈ l, okC c) : decL (encL (ints l)) = l := by
  induction l with
  | nil => simp [ints, encL, decL_nil]
  | cons c l ih =>
    have hc := h c (by simp)
    show decL (encL ((c : Int) :: ints l)) = _
    rw [encL_cons, cp_of_ok hc, decL_step (by simp [encN_ne])]
    rw [(fst_enc hc (encL (ints l))).2]
    simp only [List.drop_left]
    rw [ih fun d hd => h d (by simp [hd])]
theorem decL_ok (l : List UInt8) : ∀ c ∈ decL l, okC c := by
  induction hn : l.length using Nat.strongRecOn generalizing l with
  | _ n ih =>
    by_cases hl : l = []
    · subst hl; simp [decL_nil]
    · have hs := drop_shorter hl
      have i := ih _ (by omega) (l.drop (dk l).2) rfl
      rw [decL_step hl]
      intro c hc
      rcases List.mem_cons.1 hc with rfl | hc
      · exact dk_ok l
      · exact i c hc
theorem enc_dec_valid (l : List UInt8) (h : valL l = true) : encL (ints (decL l)) = l := by
  induction hn : l.length using Nat.strongRecOn generalizing l with
  | _ n ih =>
    by_cases hl : l = []
    · subst hl; simp [decL_nil, ints, encL]
    · rw [valL_step hl] at h
      split at h
      · exact absurd h (by simp)
      · rename_i h0
        have hs := drop_shorter hl
        have i := ih _ (by omega) (l.drop (dk l).2) h rfl
        rw [decL_step hl]
        show encL (((dk l).1 : Int) :: ints _) = _
        rw [encL_cons, cp_of_ok (dk_ok l), enc_dk hl h0, i, List.take_append_drop]
theorem round_trip (l : List UInt8) : valL (encL (ints (decL l))) = true ∧ (encL (ints (decL l)) = l ↔ valL l = true) ∧ decL (encL (ints (decL l))) = decL l ∧ (decL l).length ≤ l.length :=
  ⟨encL_valid _, ⟨fun h => by rw [← h]; exact encL_valid _, enc_dec_valid l⟩, decL_encL _ (decL_ok l), decL_length l⟩
/-- One piece more: what is out, and what is held back. -/
theorem write_split {out : List Nat} {held b rest : List UInt8} {s : List UInt8} (h : out ++ decL (held ++ (b ++ rest)) = decL s) :
    (out ++ decL ((held ++ b).take (cutL (held ++ b)))) ++ decL ((held ++ b).drop (cutL (held ++ b)) ++ rest) = decL s := by
  rw [List.append_assoc, ← decL_cut, ← h, List.append_assoc]
end Go.Proofs.YtbpmhleokmcggaaDoor
