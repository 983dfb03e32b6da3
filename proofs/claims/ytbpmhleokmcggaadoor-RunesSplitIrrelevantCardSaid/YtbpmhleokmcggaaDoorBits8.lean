/-
  The word that utf8.word makes of eight bytes, of no program: if none of its high bits is set, the bytes are ASCII.
-/
import Derived.Laws.BitsAllLaws
import Derived.Test.YtbpmhleokmcggaaDoorUni
namespace Go.Proofs.YtbpmhleokmcggaaDoor
set_option linter.unusedVariables false
set_option linter.unusedSimpArgs false

def bv (x : Int) : BitVec 64 := BitVec.ofInt 64 x
theorem bv_wrap (x : Int) : bv (IntKind.u64.wrap x) = bv x := by
  unfold bv
  rw [IntKind.wrap_u64]
  apply BitVec.eq_of_toNat_eq
  rw [BitVec.toNat_ofInt, BitVec.toNat_ofInt]
  congr 1
  exact Int.emod_emod_of_dvd _ (Int.dvd_refl _)
theorem bv_nat (b : BitVec 64) : bv (IntKind.u64.wrap (b.toNat : Int)) = b := by
  rw [bv_wrap]
  unfold bv
  rw [BitVec.ofInt_natCast, BitVec.ofNat_toNat]
  exact BitVec.setWidth_eq b
theorem bv_or (x y : Int) : bv (bits .or .u64 x y) = bv x ||| bv y := bv_nat _
theorem bv_and (x y : Int) : bv (bits .and .u64 x y) = bv x &&& bv y := bv_nat _
/-- The high bit of byte i is not set in the word. -/
def low (x : Int) (i : Nat) : Prop := (bv x).getLsbD (8 * i + 7) = false
theorem low_or {x y : Int} {i : Nat} (h : low (bits .or .u64 x y) i) : low x i ∧ low y i := by
  unfold low at *
  rw [bv_or, BitVec.getLsbD_or, Bool.or_eq_false_iff] at h
  exact h
theorem low_mask {x : Int} (h : bits .and .u64 x 9259542123273814144 = 0) {i : Nat} (hi : i < 8) : low x i := by
  unfold low
  have h1 := congrArg bv h
  rw [bv_and] at h1
  have h2 := congrArg (fun b => b.getLsbD (8 * i + 7)) h1
  simp only [BitVec.getLsbD_and] at h2
  have h3 : (bv 9259542123273814144).getLsbD (8 * i + 7) = true := by
    have : ∀ i : Fin 8, (bv 9259542123273814144).getLsbD (8 * i.val + 7) = true := by decide +kernel
    exact this ⟨i, hi⟩
  have h4 : (bv 0).getLsbD (8 * i + 7) = false := by
    have : ∀ i : Fin 8, (bv 0).getLsbD (8 * i.val + 7) = false := by decide +kernel
    exact this ⟨i, hi⟩
  rw [h3, h4] at h2
  simpa using h2
theorem low_byte {b k i : Nat} (hb : b < 256) (hk : k = 2 ^ (8 * i)) (hi : i < 8) (h : low ((b : Int) * (k : Int)) i) : b < 128 := by
  unfold low bv at h
  rw [← Int.natCast_mul, BitVec.ofInt_natCast, BitVec.getLsbD_ofNat, Bool.and_eq_false_iff] at h
  rcases h with h | h
  · simp at h; omega
  · rw [Nat.testBit_eq_decide_div_mod_eq, decide_eq_false_iff_not] at h
    subst hk
    rw [Nat.pow_add, ← Nat.div_div_eq_div_mul, Nat.mul_div_cancel _ (Nat.two_pow_pos _)] at h
    omega
/-- The word of eight bytes, as it is reckoned. -/
def wordV (b0 b1 b2 b3 b4 b5 b6 b7 : Nat) : Int :=
  bits .or .u64 (bits .or .u64 (bits .or .u64 (bits .or .u64 (bits .or .u64 (bits .or .u64 (bits .or .u64 (IntKind.u64.wrap b0) (IntKind.u64.wrap (IntKind.u64.wrap b1 * 256)))
    (IntKind.u64.wrap (IntKind.u64.wrap b2 * 65536))) (IntKind.u64.wrap (IntKind.u64.wrap b3 * 16777216))) (IntKind.u64.wrap (IntKind.u64.wrap b4 * 4294967296)))
    (IntKind.u64.wrap (IntKind.u64.wrap b5 * 1099511627776))) (IntKind.u64.wrap (IntKind.u64.wrap b6 * 281474976710656))) (IntKind.u64.wrap (IntKind.u64.wrap b7 * 72057594037927936))
theorem wrap_byte {b : Nat} (h : b < 256) : IntKind.u64.wrap (b : Int) = b := by rw [IntKind.wrap_u64]; omega
theorem low_wrap {x : Int} {i : Nat} (h : low (IntKind.u64.wrap x) i) : low x i := by unfold low at *; rwa [bv_wrap] at h
theorem low_part {b i : Nat} {k : Nat} (hb : b < 256) (hk : k = 2 ^ (8 * i)) (hi : i < 8) (h : low (IntKind.u64.wrap (IntKind.u64.wrap (b : Int) * (k : Int))) i) : b < 128 := by
  rw [wrap_byte hb] at h
  exact low_byte hb hk hi (low_wrap h)
/-- The first eight bytes are ASCII. -/
def ascii8 (l : List UInt8) : Prop := ∀ j, j < 8 → bt l j < 128
def wordL (l : List UInt8) : Int := wordV (bt l 0) (bt l 1) (bt l 2) (bt l 3) (bt l 4) (bt l 5) (bt l 6) (bt l 7)
theorem word_low {l : List UInt8} (h : ∀ i, i < 8 → low (wordL l) i) : ascii8 l := by
  have p7 : bt l 7 < 128 := low_part (k := 72057594037927936) (bt_lt _ _) rfl (by omega) (low_or (h 7 (by omega))).2
  have h' : ∀ i, i < 8 → _ := fun i hi => (low_or (h i hi)).1
  have p6 : bt l 6 < 128 := low_part (k := 281474976710656) (bt_lt _ _) rfl (by omega) (low_or (h' 6 (by omega))).2
  have h5 : ∀ i, i < 8 → _ := fun i hi => (low_or (h' i hi)).1
  have p5 : bt l 5 < 128 := low_part (k := 1099511627776) (bt_lt _ _) rfl (by omega) (low_or (h5 5 (by omega))).2
  have h4 : ∀ i, i < 8 → _ := fun i hi => (low_or (h5 i hi)).1
  have p4 : bt l 4 < 128 := low_part (k := 4294967296) (bt_lt _ _) rfl (by omega) (low_or (h4 4 (by omega))).2
  have h3 : ∀ i, i < 8 → _ := fun i hi => (low_or (h4 i hi)).1
  have p3 : bt l 3 < 128 := low_part (k := 16777216) (bt_lt _ _) rfl (by omega) (low_or (h3 3 (by omega))).2
  have h2 : ∀ i, i < 8 → _ := fun i hi => (low_or (h3 i hi)).1
  have p2 : bt l 2 < 128 := low_part (k := 65536) (bt_lt _ _) rfl (by omega) (low_or (h2 2 (by omega))).2
  have h1 : ∀ i, i < 8 → _ := fun i hi => (low_or (h2 i hi)).1
  have p1 : bt l 1 < 128 := low_part (k := 256) (bt_lt _ _) rfl (by omega) (low_or (h1 1 (by omega))).2
  have p0 : bt l 0 < 128 := by
    have := (low_or (h1 0 (by omega))).1
    exact low_byte (k := 1) (i := 0) (bt_lt _ _) rfl (by omega) (by simpa using low_wrap this)
  intro j hj
  have : j = 0 ∨ j = 1 ∨ j = 2 ∨ j = 3 ∨ j = 4 ∨ j = 5 ∨ j = 6 ∨ j = 7 := by omega
  rcases this with rfl | rfl | rfl | rfl | rfl | rfl | rfl | rfl <;> assumption
theorem word1 {l : List UInt8} (h : bits .and .u64 (wordL l) 9259542123273814144 = 0) : ascii8 l := word_low fun i hi => low_mask h hi
theorem word2 {a b : List UInt8} (h : bits .and .u64 (bits .or .u64 (wordL a) (wordL b)) 9259542123273814144 = 0) : ascii8 a ∧ ascii8 b :=
  ⟨word_low fun i hi => (low_or (low_mask h hi)).1, word_low fun i hi => (low_or (low_mask h hi)).2⟩
theorem word4 {a b c d : List UInt8} (h : bits .and .u64 (bits .or .u64 (bits .or .u64 (wordL a) (wordL b)) (bits .or .u64 (wordL c) (wordL d))) 9259542123273814144 = 0) : ascii8 a ∧ ascii8 b ∧ ascii8 c ∧ ascii8 d :=
  ⟨word_low fun i hi => (low_or (low_or (low_mask h hi)).1).1, word_low fun i hi => (low_or (low_or (low_mask h hi)).1).2, word_low fun i hi => (low_or (low_or (low_mask h hi)).2).1, word_low fun i hi => (low_or (low_or (low_mask h hi)).2).2⟩
theorem fst_ascii {l : List UInt8} (hl : l ≠ []) (h : bt l 0 < 128) : fst l = (1, false) := by
  unfold fst firstN
  rw [if_neg hl, if_pos h]
theorem valL_ascii {l : List UInt8} (hl : l ≠ []) (h : bt l 0 < 128) : valL l = valL (l.drop 1) := by
  have hf := fst_ascii hl h
  rw [valL_step hl, if_neg (by rw [hf]; simp), dk_valid hl (by rw [hf]; simp), hf]
theorem valL_skip (n : Nat) : ∀ (l : List UInt8), n ≤ l.length → (∀ j, j < n → bt l j < 128) → valL l = valL (l.drop n) := by
  induction n with
  | zero => intro l _ _; simp
  | succ n ih =>
    intro l hn h
    have hl : l ≠ [] := by rintro rfl; simp at hn
    rw [valL_ascii hl (h 0 (by omega)), ih (l.drop 1) (by simp; omega) (fun j hj => by rw [bt_drop]; exact h (1 + j) (by omega))]
    rw [List.drop_drop, Nat.add_comm]
theorem valL_skip8 {l : List UInt8} (hn : 8 ≤ l.length) (h : ascii8 l) : valL l = valL (l.drop 8) := valL_skip 8 l hn h
end Go.Proofs.YtbpmhleokmcggaaDoor
