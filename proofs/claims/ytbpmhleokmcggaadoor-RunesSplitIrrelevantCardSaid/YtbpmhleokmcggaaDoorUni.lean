/-
  Layer 6 as lists, of no program: decoding of UTF-8 (the model's own decode at a place), its reference's way (the length of the valid encoding at the start, or 'more'), valid strings, what is held back, encoding; the laws of layer 6 as lists.
-/
import Derived.Laws.Runes
import Derived.Laws.RangeAny
import Derived.Laws.Concat
import Derived.Lib.DecodeN
namespace Go.Proofs.YtbpmhleokmcggaaDoor
set_option linter.unusedVariables false
set_option linter.unusedSimpArgs false

/-- The byte at a place, 0 beyond the end. -/
def bt (l : List UInt8) (j : Nat) : Nat := (l.getD j 0).toNat
theorem bt_lt (l : List UInt8) (j : Nat) : bt l j < 256 := UInt8.toNat_lt _
theorem bt_append (l t : List UInt8) {j : Nat} (h : j < l.length) : bt (l ++ t) j = bt l j := by
  simp [bt, List.getD_eq_getElem?_getD, List.getElem?_append_left h]
theorem bt_take (l : List UInt8) {j m : Nat} (h : j < m) : bt (l.take m) j = bt l j := by
  simp [bt, List.getD_eq_getElem?_getD, List.getElem?_take, h]
theorem bt_drop (l : List UInt8) (i j : Nat) : bt (l.drop i) j = bt l (i + j) := by
  simp [bt, List.getD_eq_getElem?_getD, List.getElem?_drop]
/-- What is decoded at the start: the rune and its width. -/
def dk (l : List UInt8) : Nat × Nat := Lib.decodeN l.length (bt l 0) (bt l 1) (bt l 2) (bt l 3)
theorem get_bt (s : ByteArray) (i : Nat) : (s.get! i).toNat = bt s.data.toList i := by
  unfold bt
  congr 1
  rw [List.getD_eq_getElem?_getD]
  show s.data[i]! = _
  rw [Array.getElem!_eq_getD, Array.getD_eq_getD_getElem?]
  simp
  rfl
theorem decode_dk (s : ByteArray) (i : Nat) : Utf8.decode s i = dk (s.data.toList.drop i) := by
  rw [Lib.decode_at]
  unfold dk
  rw [bt_drop, bt_drop, bt_drop, bt_drop, get_bt, get_bt, get_bt, get_bt]
  simp
def szT (b : Nat) : Nat := if b < 194 then 0 else if b < 224 then 2 else if b < 240 then 3 else if b ≤ 244 then 4 else 0
def loT (b : Nat) : Nat := if b = 224 then 160 else if b = 240 then 144 else 128
def hiT (b : Nat) : Nat := if b = 237 then 159 else if b = 244 then 143 else 191
theorem szT2 {b : Nat} (h : 194 ≤ b ∧ b < 224) : szT b = 2 := by unfold szT; rw [if_neg (by omega), if_pos (by omega)]
theorem szT3 {b : Nat} (h : 224 ≤ b ∧ b < 240) : szT b = 3 := by unfold szT; rw [if_neg (by omega), if_neg (by omega), if_pos (by omega)]
theorem szT4 {b : Nat} (h : 240 ≤ b ∧ b ≤ 244) : szT b = 4 := by unfold szT; rw [if_neg (by omega), if_neg (by omega), if_neg (by omega), if_pos (by omega)]
theorem szT0 {b : Nat} (h : b < 194 ∨ 244 < b) : szT b = 0 := by unfold szT; repeat' split
                                                                 all_goals first | rfl | (exfalso; omega)
theorem loT1 {b : Nat} (h : b ≠ 224) (h2 : b ≠ 240) : loT b = 128 := by unfold loT; rw [if_neg h, if_neg h2]
theorem hiT1 {b : Nat} (h : b ≠ 237) (h2 : b ≠ 244) : hiT b = 191 := by unfold hiT; rw [if_neg h, if_neg h2]
theorem loT_ge (b : Nat) : 128 ≤ loT b ∧ loT b ≤ 160 := by unfold loT; repeat' split
                                                           all_goals omega
theorem hiT_le (b : Nat) : hiT b ≤ 191 ∧ 143 ≤ hiT b := by unfold hiT; repeat' split
                                                           all_goals omega
def firstC (n b1 b2 b3 sz lo hi : Nat) : Nat × Bool :=
  if n ≤ 1 then (0, true) else if b1 < lo ∨ hi < b1 then (0, false) else if sz ≤ 2 then (2, false)
  else if n ≤ 2 then (0, true) else if b2 < 128 ∨ 191 < b2 then (0, false) else if sz ≤ 3 then (3, false)
  else if n ≤ 3 then (0, true) else if b3 < 128 ∨ 191 < b3 then (0, false) else (4, false)
def firstN (n b0 b1 b2 b3 : Nat) : Nat × Bool :=
  if b0 < 128 then (1, false) else if szT b0 = 0 then (0, false) else firstC n b1 b2 b3 (szT b0) (loT b0) (hiT b0)
def valueN (k b0 b1 b2 b3 : Nat) : Nat :=
  if k = 1 then b0 else if k = 2 then (b0 - 192) * 64 + (b1 - 128) else if k = 3 then (b0 - 224) * 4096 + (b1 - 128) * 64 + (b2 - 128)
  else (b0 - 240) * 262144 + (b1 - 128) * 4096 + (b2 - 128) * 64 + (b3 - 128)
/-- The valid encoding at the start: its length (0: none), and whether the whole is a proper prefix of one. -/
def fst (l : List UInt8) : Nat × Bool := if l = [] then (0, false) else firstN l.length (bt l 0) (bt l 1) (bt l 2) (bt l 3)
def val (k : Nat) (l : List UInt8) : Nat := valueN k (bt l 0) (bt l 1) (bt l 2) (bt l 3)
def res (f : Nat × Bool) (v : Nat) : Nat × Nat := if f.1 = 0 then (65533, 1) else (v, f.1)

theorem firstC_err {n b1 b2 b3 sz lo hi : Nat} (h : n < sz) (hs : sz = 2 ∨ sz = 3 ∨ sz = 4) : (firstC n b1 b2 b3 sz lo hi).1 = 0 := by
  by_cases g1 : n ≤ 1
  · simp [firstC, g1]
  by_cases g2 : b1 < lo ∨ hi < b1
  · simp [firstC, g1, g2]
  by_cases g3 : sz ≤ 2
  · omega
  by_cases g4 : n ≤ 2
  · simp [firstC, g1, g2, g3, g4]
  by_cases g5 : b2 < 128 ∨ 191 < b2
  · simp [firstC, g1, g2, g3, g4, g5]
  by_cases g6 : sz ≤ 3
  · omega
  by_cases g7 : n ≤ 3
  · simp [firstC, g1, g2, g3, g4, g5, g6, g7]
  omega
theorem class2 (n b0 b1 b2 b3 : Nat) (hn : 1 ≤ n) (h1 : b1 < 256) (h2 : b2 < 256) (h3 : b3 < 256) (hb : 194 ≤ b0 ∧ b0 < 224) :
    Lib.decodeN n b0 b1 b2 b3 = res (firstC n b1 b2 b3 2 128 191) (valueN (firstC n b1 b2 b3 2 128 191).1 b0 b1 b2 b3) := by
  rw [← Lib.slow_C2 n b0 b1 b2 b3 hn h1 h2 h3 hb]
  by_cases g1 : n < 2
  · simp [Lib.slowN, g1, res, firstC_err g1 (Or.inl rfl)]
  have g1' : ¬ n ≤ 1 := by omega
  by_cases g2 : b1 < 128 ∨ 191 < b1
  · simp [Lib.slowN, firstC, res, g1, g1', g2]
  have e0 : b0 % 32 = b0 - 192 := by omega
  have e1 : b1 % 64 = b1 - 128 := by omega
  simp [Lib.slowN, firstC, res, g1, g1', g2, valueN, e0, e1]
theorem class3 (n b0 b1 b2 b3 lo hi : Nat) (hn : 1 ≤ n) (h1 : b1 < 256) (h2 : b2 < 256) (h3 : b3 < 256) (hb : 224 ≤ b0 ∧ b0 < 240) (hlo : 128 ≤ lo) (hhi : hi ≤ 191) :
    Lib.slowN n b0 b1 b2 b3 3 lo hi = res (firstC n b1 b2 b3 3 lo hi) (valueN (firstC n b1 b2 b3 3 lo hi).1 b0 b1 b2 b3) := by
  by_cases g1 : n < 3
  · simp [Lib.slowN, g1, res, firstC_err g1 (Or.inr (Or.inl rfl))]
  have g1' : ¬ n ≤ 1 := by omega
  have g4 : ¬ n ≤ 2 := by omega
  by_cases g2 : b1 < lo ∨ hi < b1
  · simp [Lib.slowN, firstC, res, g1, g1', g2]
  by_cases g5 : b2 < 128 ∨ 191 < b2
  · simp [Lib.slowN, firstC, res, g1, g1', g2, g4, g5]
  have e0 : b0 % 16 = b0 - 224 := by omega
  have e1 : b1 % 64 = b1 - 128 := by omega
  have e2 : b2 % 64 = b2 - 128 := by omega
  simp [Lib.slowN, firstC, res, g1, g1', g2, g4, g5, valueN, e0, e1, e2]
theorem class4 (n b0 b1 b2 b3 lo hi : Nat) (hn : 1 ≤ n) (h1 : b1 < 256) (h2 : b2 < 256) (h3 : b3 < 256) (hb : 240 ≤ b0 ∧ b0 < 248) (hlo : 128 ≤ lo) (hhi : hi ≤ 191) :
    Lib.slowN n b0 b1 b2 b3 4 lo hi = res (firstC n b1 b2 b3 4 lo hi) (valueN (firstC n b1 b2 b3 4 lo hi).1 b0 b1 b2 b3) := by
  by_cases g1 : n < 4
  · simp [Lib.slowN, g1, res, firstC_err g1 (Or.inr (Or.inr rfl))]
  have g1' : ¬ n ≤ 1 := by omega
  have g4 : ¬ n ≤ 2 := by omega
  have g6 : ¬ n ≤ 3 := by omega
  by_cases g2 : b1 < lo ∨ hi < b1
  · simp [Lib.slowN, firstC, res, g1, g1', g2]
  by_cases g5 : b2 < 128 ∨ 191 < b2
  · simp [Lib.slowN, firstC, res, g1, g1', g2, g4, g5]
  by_cases g7 : b3 < 128 ∨ 191 < b3
  · simp [Lib.slowN, firstC, res, g1, g1', g2, g4, g5, g6, g7]
  have e0 : b0 % 8 = b0 - 240 := by omega
  have e1 : b1 % 64 = b1 - 128 := by omega
  have e2 : b2 % 64 = b2 - 128 := by omega
  have e3 : b3 % 64 = b3 - 128 := by omega
  simp [Lib.slowN, firstC, res, g1, g1', g2, g4, g5, g6, g7, valueN, e0, e1, e2, e3]
theorem class0 (n b0 b1 b2 b3 : Nat) (h0 : b0 < 256) (hb : (128 ≤ b0 ∧ b0 < 194) ∨ 244 < b0) : Lib.decodeN n b0 b1 b2 b3 = (65533, 1) := by
  unfold Lib.decodeN
  repeat' split
  all_goals first | rfl | (exfalso; omega)
theorem decodeN_first (n b0 b1 b2 b3 : Nat) (hn : 1 ≤ n) (h0 : b0 < 256) (h1 : b1 < 256) (h2 : b2 < 256) (h3 : b3 < 256) :
    Lib.decodeN n b0 b1 b2 b3 = res (firstN n b0 b1 b2 b3) (valueN (firstN n b0 b1 b2 b3).1 b0 b1 b2 b3) := by
  by_cases ha : b0 < 128
  · simp [firstN, ha, res, valueN, Lib.decodeN]
  · by_cases hc : b0 < 194 ∨ 244 < b0
    · rw [class0 n b0 b1 b2 b3 h0 (by omega)]
      simp [firstN, ha, szT0 hc, res]
    · by_cases h4 : b0 < 224
      · rw [class2 n b0 b1 b2 b3 hn h1 h2 h3 (by omega)]
        have hz : firstN n b0 b1 b2 b3 = firstC n b1 b2 b3 2 128 191 := by
          unfold firstN
          rw [if_neg ha, szT2 (by omega), if_neg (by omega), loT1 (by omega) (by omega), hiT1 (by omega) (by omega)]
        rw [hz]
      · by_cases h5 : b0 < 240
        · have hz : firstN n b0 b1 b2 b3 = firstC n b1 b2 b3 3 (loT b0) (hiT b0) := by
            unfold firstN
            rw [if_neg ha, szT3 (by omega), if_neg (by omega)]
          rw [hz, ← class3 n b0 b1 b2 b3 (loT b0) (hiT b0) hn h1 h2 h3 (by omega) (loT_ge b0).1 (hiT_le b0).1]
          by_cases h6 : b0 = 224
          · subst h6; exact (Lib.slow_E0 n _ b1 b2 b3 hn h1 h2 h3 rfl).symm
          · by_cases h7 : b0 = 237
            · subst h7; exact (Lib.slow_ED n _ b1 b2 b3 hn h1 h2 h3 rfl).symm
            · rw [loT1 (by omega) (by omega), hiT1 (by omega) (by omega)]
              exact (Lib.slow_E1 n _ b1 b2 b3 hn h1 h2 h3 (by omega)).symm
        · have hz : firstN n b0 b1 b2 b3 = firstC n b1 b2 b3 4 (loT b0) (hiT b0) := by
            unfold firstN
            rw [if_neg ha, szT4 (by omega), if_neg (by omega)]
          rw [hz, ← class4 n b0 b1 b2 b3 (loT b0) (hiT b0) hn h1 h2 h3 (by omega) (loT_ge b0).1 (hiT_le b0).1]
          by_cases h6 : b0 = 240
          · subst h6; exact (Lib.slow_F0 n _ b1 b2 b3 hn h1 h2 h3 rfl).symm
          · by_cases h7 : b0 = 244
            · subst h7; exact (Lib.slow_F4 n _ b1 b2 b3 hn h1 h2 h3 rfl).symm
            · rw [loT1 (by omega) (by omega), hiT1 (by omega) (by omega)]
              exact (Lib.slow_F1 n _ b1 b2 b3 hn h1 h2 h3 (by omega)).symm
theorem dk_fst {l : List UInt8} (hl : l ≠ []) : dk l = res (fst l) (val (fst l).1 l) := by
  unfold dk fst val
  rw [if_neg hl]
  exact decodeN_first _ _ _ _ _ (by cases l with | nil => exact absurd rfl hl | cons => simp) (bt_lt _ _) (bt_lt _ _) (bt_lt _ _) (bt_lt _ _)
theorem firstC_le (n b1 b2 b3 sz lo hi : Nat) : (firstC n b1 b2 b3 sz lo hi).1 ≤ n ∧ (firstC n b1 b2 b3 sz lo hi).1 ≤ 4 ∧ ((firstC n b1 b2 b3 sz lo hi).2 = true → (firstC n b1 b2 b3 sz lo hi).1 = 0 ∧ n ≤ 3) := by
  unfold firstC
  repeat' split
  all_goals simp
  all_goals omega
theorem fst_le (l : List UInt8) : (fst l).1 ≤ l.length ∧ (fst l).1 ≤ 4 ∧ ((fst l).2 = true → (fst l).1 = 0 ∧ l.length ≤ 3 ∧ l ≠ []) := by
  unfold fst
  split
  · simp
  · rename_i hl
    have : 1 ≤ l.length := by cases l with | nil => exact absurd rfl hl | cons => simp
    unfold firstN
    split
    · simp; omega
    · split
      · simp
      · have := firstC_le l.length (bt l 1) (bt l 2) (bt l 3) (szT (bt l 0)) (loT (bt l 0)) (hiT (bt l 0))
        refine ⟨this.1, this.2.1, fun h => ⟨(this.2.2 h).1, (this.2.2 h).2, hl⟩⟩
/-- Told the bytes that are there, more bytes behind don't change it. -/
theorem firstC_more {n m b1 b2 b3 c1 c2 c3 sz lo hi : Nat} (hm : n ≤ m) (h1 : 1 < n → c1 = b1) (h2 : 2 < n → c2 = b2) (h3 : 3 < n → c3 = b3)
    (h : (firstC n b1 b2 b3 sz lo hi).2 = false) : firstC m c1 c2 c3 sz lo hi = firstC n b1 b2 b3 sz lo hi := by
  by_cases g1 : n ≤ 1
  · simp [firstC, g1] at h
  rw [h1 (by omega)]
  by_cases g2 : b1 < lo ∨ hi < b1
  · simp [firstC, g1, g2, show ¬ m ≤ 1 by omega]
  by_cases g3 : sz ≤ 2
  · simp [firstC, g1, g2, g3, show ¬ m ≤ 1 by omega]
  by_cases g4 : n ≤ 2
  · simp [firstC, g1, g2, g3, g4] at h
  rw [h2 (by omega)]
  by_cases g5 : b2 < 128 ∨ 191 < b2
  · simp [firstC, g1, g2, g3, g4, g5, show ¬ m ≤ 1 by omega, show ¬ m ≤ 2 by omega]
  by_cases g6 : sz ≤ 3
  · simp [firstC, g1, g2, g3, g4, g5, g6, show ¬ m ≤ 1 by omega, show ¬ m ≤ 2 by omega]
  by_cases g7 : n ≤ 3
  · simp [firstC, g1, g2, g3, g4, g5, g6, g7] at h
  rw [h3 (by omega)]
  simp [firstC, g1, g2, g3, g4, g5, g6, g7, show ¬ m ≤ 1 by omega, show ¬ m ≤ 2 by omega, show ¬ m ≤ 3 by omega]
/-- Told its first bytes alone: the same, if they hold the encoding; else none. -/
theorem firstC_less {n m b1 b2 b3 c1 c2 c3 sz lo hi : Nat} (hm : m ≤ n) (h1 : 1 < m → c1 = b1) (h2 : 2 < m → c2 = b2) (h3 : 3 < m → c3 = b3)
    (h : (firstC n b1 b2 b3 sz lo hi).1 ≤ m) : (firstC m c1 c2 c3 sz lo hi).1 = (firstC n b1 b2 b3 sz lo hi).1 := by
  have hle := firstC_le n b1 b2 b3 sz lo hi
  by_cases g1 : m ≤ 1
  · simp only [firstC, g1, if_true]
    revert h
    unfold firstC
    repeat' split
    all_goals simp
    all_goals omega
  rw [h1 (by omega)]
  have g1' : ¬ n ≤ 1 := by omega
  by_cases g2 : b1 < lo ∨ hi < b1
  · simp [firstC, g1, g2, g1']
  by_cases g3 : sz ≤ 2
  · simp [firstC, g1, g2, g3, g1']
  by_cases g4 : m ≤ 2
  · simp only [firstC, g1, g2, g3, g4, if_true, if_false]
    revert h
    unfold firstC
    simp only [g1', g2, g3, if_false]
    repeat' split
    all_goals simp
    all_goals omega
  rw [h2 (by omega)]
  have g4' : ¬ n ≤ 2 := by omega
  by_cases g5 : b2 < 128 ∨ 191 < b2
  · simp [firstC, g1, g2, g3, g4, g5, g1', g4']
  by_cases g6 : sz ≤ 3
  · simp [firstC, g1, g2, g3, g4, g5, g6, g1', g4']
  by_cases g7 : m ≤ 3
  · simp only [firstC, g1, g2, g3, g4, g5, g6, g7, if_true, if_false]
    revert h
    unfold firstC
    simp only [g1', g2, g3, g4', g5, g6, if_false]
    repeat' split
    all_goals simp
    all_goals omega
  rw [h3 (by omega)]
  simp [firstC, g1, g2, g3, g4, g5, g6, g7, g1', g4', show ¬ n ≤ 3 by omega]
theorem len_pos {l : List UInt8} (hl : l ≠ []) : 1 ≤ l.length := by cases l with | nil => exact absurd rfl hl | cons => simp
theorem take_ne {l : List UInt8} {m : Nat} (hl : l ≠ []) (h : 1 ≤ m) : l.take m ≠ [] := by
  have := len_pos hl
  intro he
  have h2 := congrArg List.length he
  rw [List.length_take] at h2
  simp only [List.length_nil] at h2
  omega
theorem fst_append {l : List UInt8} (t : List UInt8) (hl : l ≠ []) (hm : (fst l).2 = false) : fst (l ++ t) = fst l := by
  have hp := len_pos hl
  unfold fst at *
  rw [if_neg hl] at hm ⊢
  rw [if_neg (by simp [hl])]
  rw [bt_append l t (by omega)]
  unfold firstN at *
  split
  · rfl
  · rename_i h1
    rw [if_neg h1] at hm
    split
    · rfl
    · rename_i h2
      rw [if_neg h2] at hm
      exact firstC_more (by simp) (fun h => bt_append l t h) (fun h => bt_append l t h) (fun h => bt_append l t h) hm
theorem fst_take {l : List UInt8} {m : Nat} (hl : l ≠ []) (h1 : 1 ≤ m) (hm : (fst l).1 ≤ m) : (fst (l.take m)).1 = (fst l).1 := by
  have hp := len_pos hl
  by_cases hlm : l.length ≤ m
  · rw [List.take_of_length_le hlm]
  have hne : l.take m ≠ [] := take_ne hl h1
  unfold fst at *
  rw [if_neg hl] at hm ⊢
  rw [if_neg hne]
  rw [bt_take l (by omega : 0 < m)]
  unfold firstN at *
  split
  · rfl
  · rename_i h1
    rw [if_neg h1] at hm
    split
    · rfl
    · rename_i h2
      rw [if_neg h2] at hm
      have : (l.take m).length = m := by simp; omega
      rw [this]
      exact firstC_less (by omega) (fun h => bt_take l h) (fun h => bt_take l h) (fun h => bt_take l h) hm
theorem val_congr {k : Nat} {l t : List UInt8} (h0 : 1 ≤ k) (h : ∀ j, j < k → bt t j = bt l j) (hk : k ≤ 4) : val k t = val k l := by
  unfold val valueN
  rw [h 0 (by omega)]
  split
  · rfl
  rw [h 1 (by omega)]
  split
  · rfl
  rw [h 2 (by omega)]
  split
  · rfl
  rw [h 3 (by omega)]
theorem dk_append {l : List UInt8} (t : List UInt8) (hl : l ≠ []) (hm : (fst l).2 = false) : dk (l ++ t) = dk l := by
  rw [dk_fst hl, dk_fst (by simp [hl]), fst_append t hl hm]
  unfold res
  split
  · rfl
  · rw [val_congr (by omega) (fun j hj => bt_append l t (by have := fst_le l; omega)) (fst_le l).2.1]
theorem dk_take {l : List UInt8} {m : Nat} (hl : l ≠ []) (h : (dk l).2 ≤ m) : dk (l.take m) = dk l := by
  have hp := len_pos hl
  rw [dk_fst hl] at h
  have h1 : 1 ≤ m := by
    unfold res at h
    split at h
    · exact h
    · simp at h; omega
  have h2 : (fst l).1 ≤ m := by
    unfold res at h
    split at h
    · omega
    · exact h
  have hne : l.take m ≠ [] := take_ne hl h1
  rw [dk_fst hl, dk_fst hne]
  unfold res
  rw [fst_take hl h1 h2]
  split
  · rfl
  · rw [val_congr (by omega) (fun j hj => bt_take l (by omega)) (fst_le l).2.1]
theorem dk_wid {l : List UInt8} (hl : l ≠ []) : 1 ≤ (dk l).2 ∧ (dk l).2 ≤ l.length := by
  have hp := len_pos hl
  rw [dk_fst hl]
  have := fst_le l
  unfold res
  split
  · exact ⟨Nat.le_refl 1, hp⟩
  · exact ⟨by simp; omega, this.1⟩
theorem drop_shorter {l : List UInt8} (hl : l ≠ []) : (l.drop (dk l).2).length < l.length := by
  have := dk_wid hl
  have := len_pos hl
  simp
  omega
/-! ### decoding, valid, what is held back -/
/-- The runes of a string. -/
def decL (l : List UInt8) : List Nat := if hl : l = [] then [] else (dk l).1 :: decL (l.drop (dk l).2)
termination_by l.length
decreasing_by exact drop_shorter hl
theorem decL_nil : decL [] = [] := by rw [decL]; simp
theorem decL_step {l : List UInt8} (hl : l ≠ []) : decL l = (dk l).1 :: decL (l.drop (dk l).2) := by rw [decL]; simp [hl]
/-- A concatenation of valid encodings. -/
def valL (l : List UInt8) : Bool := if hl : l = [] then true else if (fst l).1 = 0 then false else valL (l.drop (dk l).2)
termination_by l.length
decreasing_by exact drop_shorter hl
theorem valL_nil : valL [] = true := by rw [valL]; simp
theorem valL_step {l : List UInt8} (hl : l ≠ []) : valL l = if (fst l).1 = 0 then false else valL (l.drop (dk l).2) := by rw [valL]; simp [hl]
theorem dk_valid {l : List UInt8} (hl : l ≠ []) (h : (fst l).1 ≠ 0) : dk l = (val (fst l).1 l, (fst l).1) := by
  rw [dk_fst hl]; simp [res, h]
/-- How many bytes at the start are decoded in the same way whatever follows. -/
def cutL (l : List UInt8) : Nat := if hl : l = [] then 0 else if (fst l).2 = true then 0 else (dk l).2 + cutL (l.drop (dk l).2)
termination_by l.length
decreasing_by exact drop_shorter hl
theorem cutL_nil : cutL [] = 0 := by rw [cutL]; simp
theorem cutL_step {l : List UInt8} (hl : l ≠ []) (h : (fst l).2 = false) : cutL l = (dk l).2 + cutL (l.drop (dk l).2) := by rw [cutL]; simp [hl, h]
theorem cutL_more {l : List UInt8} (h : (fst l).2 = true) : cutL l = 0 := by
  rw [cutL]
  split
  · rfl
  · simp [h]
theorem cutL_le (l : List UInt8) : cutL l ≤ l.length ∧ (l.drop (cutL l)).length ≤ 3 := by
  induction hn : l.length using Nat.strongRecOn generalizing l with
  | _ n ih =>
    by_cases hl : l = []
    · subst hl; rw [cutL_nil]; simp
    · cases hm : (fst l).2 with
      | true => rw [cutL_more hm]; have := (fst_le l).2.2 hm; simp; omega
      | false =>
        rw [cutL_step hl hm]
        have hs := drop_shorter hl
        have hw := dk_wid hl
        obtain ⟨i1, i2⟩ := ih _ (by omega) (l.drop (dk l).2) rfl
        simp only [List.length_drop, List.drop_drop] at i1 i2 ⊢
        omega
theorem decL_cut (l t : List UInt8) : decL (l ++ t) = decL (l.take (cutL l)) ++ decL (l.drop (cutL l) ++ t) := by
  induction hn : l.length using Nat.strongRecOn generalizing l with
  | _ n ih =>
    by_cases hl : l = []
    · subst hl; rw [cutL_nil]; simp [decL_nil]
    · cases hm : (fst l).2 with
      | true => rw [cutL_more hm]; simp [decL_nil]
      | false =>
        rw [cutL_step hl hm]
        have hs := drop_shorter hl
        have hw := dk_wid hl
        have hp := len_pos hl
        have i := ih _ (by omega) (l.drop (dk l).2) rfl
        have hne : l.take ((dk l).2 + cutL (l.drop (dk l).2)) ≠ [] := take_ne hl (by omega)
        rw [decL_step (l := l ++ t) (by simp [hl]), decL_step hne, dk_append t hl hm, dk_take hl (by omega)]
        rw [List.drop_append_of_le_length hw.2, i, List.drop_drop, List.drop_take]
        simp
theorem decL_split (a b : List UInt8) (h : valL a = true) : decL (a ++ b) = decL a ++ decL b ∧ valL (a ++ b) = valL b := by
  induction hn : a.length using Nat.strongRecOn generalizing a with
  | _ n ih =>
    by_cases hl : a = []
    · subst hl; simp [decL_nil]
    · rw [valL_step hl] at h
      split at h
      · exact absurd h (by simp)
      · rename_i h0
        have hm : (fst a).2 = false := by
          cases hm : (fst a).2 with
          | false => rfl
          | true => exact absurd ((fst_le a).2.2 hm).1 h0
        have hs := drop_shorter hl
        have hw := dk_wid hl
        obtain ⟨i1, i2⟩ := ih _ (by omega) (a.drop (dk a).2) h rfl
        rw [decL_step (l := a ++ b) (by simp [hl]), decL_step hl, dk_append b hl hm, List.drop_append_of_le_length hw.2, i1]
        refine ⟨by simp, ?_⟩
        rw [valL_step (l := a ++ b) (by simp [hl]), fst_append b hl hm, if_neg h0, dk_append b hl hm, List.drop_append_of_le_length hw.2, i2]
theorem decL_length (l : List UInt8) : (decL l).length ≤ l.length := by
  induction hn : l.length using Nat.strongRecOn generalizing l with
  | _ n ih =>
    by_cases hl : l = []
    · subst hl; simp [decL_nil]
    · have hs := drop_shorter hl
      have i := ih _ (by omega) (l.drop (dk l).2) rfl
      rw [decL_step hl]
      simp only [List.length_cons, List.length_drop] at i ⊢
      have := dk_wid hl
      omega
end Go.Proofs.YtbpmhleokmcggaaDoor
