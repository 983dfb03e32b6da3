/-
  The sources of DefinesLimits, as data.
  The sources of DefinesChain, as data.
  strconv.Itoa of a small number, slices.IsSorted of an ascending list.
-/
import Derived.Test.YtkipmaoeejdncaaDoorLp14
import Derived.Test.YtkipmaoeejdncaaDoorDn14
import Derived.Lib.ItoaNum
import Derived.Test.YtkipmaoeejdncaaDoorPg14
import Derived.Shelf.Strconv.Itoa3
import Derived.Shelf.SlSorted.IsSorted
namespace Go.Proofs.YtkipmaoeejdncaaDoor
open Go.RowKit Go.BigFrame NT
set_option linter.unusedVariables false
set_option linter.unusedSimpArgs false

theorem lex_of {s : List UInt8} {ts : List Tok} (h : Lx s 0 ts) (hs : s.length ≤ 5000) : LexOf (ofL s) (.ok ts) := by
  have hz : (ofL s).size = s.length := by rw [← toL_len, toL_ofL]
  unfold LexOf
  rw [if_neg (by omega), toL_ofL]
  exact h
theorem par_of {ts : List Tok} {l : List NT} {c : Nat} (h : P ts 0 false 0 0 = .ok (l, [], c)) : parR (.ok ts) = .ok l := by
  unfold parR
  dsimp only
  rw [h]
/-- A source that is parsed to these nodes. -/
structure Src14 (s : List UInt8) (l : List NT) : Prop where
  len : s.length ≤ 5000
  ex : ∃ ts c, Lx s 0 ts ∧ P ts 0 false 0 0 = .ok (l, [], c)
theorem Src14.parsed {s : List UInt8} {l : List NT} (h : Src14 s l) : Parsed l := by
  obtain ⟨ts, c, h1, h2⟩ := h.ex
  exact ⟨s, ts, c, h.len, h1, h2⟩
theorem Src14.call {s : List UInt8} {l : List NT} (h : Src14 s l) (w : World) : Calls Tryd.prog 7 #[.string (ofL s)] w (PdP l w) := by
  obtain ⟨ts, c, h1, h2⟩ := h.ex
  exact parsed_ok (ofL s) (by rw [← toL_len, toL_ofL]; exact h.len) _ (lex_of h1 h.len) l (par_of h2) w
theorem sd_src {k : Nat} (hk : k ≤ 70) : Src14 (sdL 0 k) (sdN 0 0 k) := by
  have hl := sdL_len k 0
  refine ⟨by omega, sdT 0 0 k, k, ?_, ?_⟩
  · have := sd_lx k 0 0 [] [] (by omega) (Lx.nil _)
    rwa [List.append_nil, List.append_nil] at this
  · have := sd_P k 0 0 [] 0 (by omega)
    rw [List.append_nil] at this
    rw [this, Nat.zero_add, P_nil]
    simp [PR.pre]
theorem sd_twice {k j : Nat} (hk : k ≤ 70) (hj : j < 70) : Src14 (sdL 0 k ++ (defL j ++ enL)) (sdN 0 0 k ++ [nd (defT (sdL 0 k).length j) false [] []]) := by
  have hl := sdL_len k 0
  have h7 : enL.length = 7 := rfl
  have hd : (defL j).length ≤ 14 := by rw [defL_len, nm_len]; split <;> omega
  refine ⟨by rw [List.length_append, List.length_append, h7]; omega, sdT 0 0 k ++ [defT (sdL 0 k).length j, enT ((sdL 0 k).length + (defL j).length)], k + 1, ?_, ?_⟩
  · refine sd_lx k 0 0 (defL j ++ enL) _ (by omega) ?_
    rw [Nat.zero_add]
    have h1 := (def_dir hj).lx (a := (sdL 0 k).length) (end_dir.lx (Lx.nil _))
    rwa [List.append_nil] at h1
  · rw [sd_P k 0 0 _ 0 (by omega), P_step_block (by rintro (⟨_, h⟩ | ⟨_, h⟩) <;> omega) (by omega) rfl, P_end rfl, if_neg (by simp [defT])]
    dsimp only
    rw [if_neg (by simp [enT]), P_nil]
    simp [PR.pre, PR.cons]
theorem sd_names_len (n i a : Nat) : (namesN (sdN a i n)).length = n := by rw [sdN_names, List.length_map, List.length_range']
theorem sd_ok {k : Nat} (hk : k ≤ 64) : checkN (sdN 0 0 k) = (0, 0) :=
  checkN_of (sdN_nodup (by omega)) (by rw [sd_names_len]; exact hk) (fun t ht => by rw [sdN_calls] at ht; cases ht)
theorem sd_name_mem {n i a j : Nat} (h1 : i ≤ j) (h2 : j < i + n) : ofL (nmB j) ∈ namesN (sdN a i n) := by
  rw [sdN_names]
  exact List.mem_map.2 ⟨j, List.mem_range'.2 ⟨j - i, by omega, by omega⟩, rfl⟩
theorem sd_dup {k j : Nat} (hk : k ≤ 64) (hj : j < k) : checkN (sdN 0 0 k ++ [nd (defT (sdL 0 k).length j) false [] []]) = (((sdL 0 k).length : Int), 12) :=
  checkN_dup (sdN_nodup (by omega)) (by rw [sd_names_len]; exact hk) rfl (sd_name_mem (by omega) (by omega))
theorem sd_many {k : Nat} (hk : 64 < k) (h70 : k ≤ 70) : checkN (sdN 0 0 k) = (((sdL 0 64).length : Int), 14) := by
  obtain ⟨m, rfl⟩ : ∃ m, k = 64 + (m + 1) := ⟨k - 65, by omega⟩
  rw [sdN_append 64 (m + 1) 0 0, sdN]
  refine (checkN_many (sdN_nodup (by omega)) (sd_names_len _ _ _) rfl fun h => ?_).trans (by simp [nd, NT.a, defT])
  rw [sdN_names] at h
  obtain ⟨i, h1, h2⟩ := List.mem_map.1 h
  rw [List.mem_range'] at h1
  obtain ⟨q, h3, rfl⟩ := h1
  have := nm_inj (by omega) (by omega) (ofL_inj h2)
  omega
theorem dec_all : (List.range 70).all (fun i => decide (nmB i = 102 :: Lib.decDigits i)) = true := by decide +kernel
theorem nm_dec {i : Nat} (h : i < 70) : nmB i = 102 :: Lib.decDigits i := of_decide_eq_true (List.all_eq_true.1 dec_all i (List.mem_range.2 h))
theorem sdL_snoc (n : Nat) : sdL 0 (n + 1) = sdL 0 n ++ (defL n ++ enL) := by rw [sdL_append, sdL, sdL, Nat.zero_add, List.append_nil]
end Go.Proofs.YtkipmaoeejdncaaDoor

namespace Go.Proofs.YtkipmaoeejdncaaDoor
open Go.RowKit Go.BigFrame NT
set_option linter.unusedVariables false
set_option linter.unusedSimpArgs false

/-- The first n definitions of a longer chain. -/
def pfL (j : Nat) : Nat → List UInt8
  | 0 => []
  | n + 1 => pfL j n ++ (defL (j + n) ++ (callL (j + n + 1) ++ enL))
theorem pfL_cons : ∀ (n j : Nat), pfL j (n + 1) = (defL j ++ (callL (j + 1) ++ enL)) ++ pfL (j + 1) n
  | 0, j => by simp [pfL]
  | n + 1, j => by
    rw [pfL, pfL_cons n j, pfL, List.append_assoc]
    rw [show j + 1 + n = j + (n + 1) by omega]
theorem chL_pf : ∀ (n j : Nat), chL j (n + 1) = pfL j n ++ (defL (j + n) ++ enL)
  | 0, j => by simp [chL, pfL]
  | n + 1, j => by
    rw [pfL_cons, chL, chL_pf n (j + 1), if_neg (by omega)]
    simp only [List.append_assoc]
    rw [show j + 1 + n = j + (n + 1) by omega]
def ifL : List UInt8 := [123, 123, 105, 102, 32, 46, 97, 125, 125]
def ifT (a : Nat) : Tok := ⟨2, a, [], [97], true⟩
theorem if_dir : DirOf ifL (ifT 0) := dirB_of (by decide +kernel)
theorem ch_src {k : Nat} (hk : k ≤ 20) : Src14 (chL 10 k) (chN 0 10 k) := by
  have hl := chL_len k 10
  have hc := chC_le k
  refine ⟨by omega, chT 0 10 k, chC k, ?_, ?_⟩
  · have := ch_lx k 10 0 [] [] (by omega) (Lx.nil _)
    rwa [List.append_nil, List.append_nil] at this
  · have := ch_P k 0 10 [] 0 (by omega)
    rw [List.append_nil] at this
    rw [this, Nat.zero_add, P_nil]
    simp [PR.pre]
def mAll (a : Nat) : NT := nd (callT a 10) false [] []
def mLast (a j : Nat) : NT := nd (ifT a) false [nd (callT (a + 9) j) false [] []] []
theorem ch_all {k : Nat} (hk : k ≤ 20) : Src14 (chL 10 k ++ callL 10) (chN 0 10 k ++ [mAll (chL 10 k).length]) := by
  have hl := chL_len k 10
  have hc := chC_le k
  have hcl : (callL 10).length = 12 := rfl
  refine ⟨by rw [List.length_append, hcl]; omega, chT 0 10 k ++ [callT (chL 10 k).length 10], chC k + 1, ?_, ?_⟩
  · refine ch_lx k 10 0 (callL 10) _ (by omega) ?_
    rw [Nat.zero_add]
    have h1 := (call_dir (i := 10) (by omega)).lx (a := (chL 10 k).length) (Lx.nil _)
    rwa [List.append_nil] at h1
  · rw [ch_P k 0 10 _ 0 (by omega), P_leaf (by simp [callT]) (by simp [callT]) (by omega) rfl, P_nil]
    simp [PR.pre, PR.cons, mAll]
theorem ch_last {k j : Nat} (hk : k ≤ 20) (hj : j < 70) : Src14 (chL 10 k ++ (ifL ++ (callL j ++ enL))) (chN 0 10 k ++ [mLast (chL 10 k).length j]) := by
  have hl := chL_len k 10
  have hc := chC_le k
  have h7 : enL.length = 7 := rfl
  have h9 : ifL.length = 9 := rfl
  have hcl : (callL j).length ≤ 12 := by rw [callL_len, nm_len]; split <;> omega
  refine ⟨by simp only [List.length_append]; omega, chT 0 10 k ++ [ifT (chL 10 k).length, callT ((chL 10 k).length + 9) j, enT ((chL 10 k).length + 9 + (callL j).length)], chC k + 2, ?_, ?_⟩
  · refine ch_lx k 10 0 (ifL ++ (callL j ++ enL)) _ (by omega) ?_
    rw [Nat.zero_add]
    have h1 := if_dir.lx (a := (chL 10 k).length) ((call_dir hj).lx (end_dir.lx (Lx.nil _)))
    rwa [List.append_nil] at h1
  · rw [ch_P k 0 10 _ 0 (by omega), P_step_block (by rintro (⟨_, h⟩ | ⟨_, h⟩) <;> omega) (by omega) rfl, P_leaf (by simp [callT]) (by simp [callT]) (by omega) rfl, P_end rfl, if_neg (by simp [ifT])]
    dsimp only [PR.cons]
    rw [if_neg (by simp [enT]), P_nil]
    simp [PR.pre, PR.cons, mLast]
theorem names_main (l : List NT) (m : NT) (hm : m.k ≠ 6) : namesN (l ++ [m]) = namesN l := by
  rw [namesN_append]
  have : namesN [m] = [] := by simp [namesN, defsN, isDef, hm]
  rw [this, List.append_nil]
theorem ch_nodup {k : Nat} (hk : k ≤ 20) : (namesN (chN 0 10 k)).Nodup := by rw [chN_names]; exact names_nodup (by omega)
theorem callN_mAll (a : Nat) : callN (mAll a) = [mAll a] := by rw [callN_eq]; simp [mAll, nd, NT.k, NT.b, NT.l, callNs_nil, callT]
theorem callN_mLast (a j : Nat) : callN (mLast a j) = [nd (callT (a + 9) j) false [] []] := by
  rw [callN_eq]
  show (if (2 : Int) = 4 then _ else []) ++ (callNs [nd (callT (a + 9) j) false [] []] ++ callNs []) = _
  rw [if_neg (by decide), callNs_cons, callNs_nil, callN_eq]
  simp [nd, NT.k, NT.b, NT.l, callNs_nil, callT]
theorem ch_len {k a : Nat} (h0 : 0 < k) (hk : k ≤ 20) {R : List ByteArray} (h : RchIs (chN 0 10 k ++ [mAll a]) R) : R.length = k := by
  have hm : (mAll a).k ≠ 6 := by show (4 : Int) ≠ 6; decide
  have hnm := names_main (chN 0 10 k) (mAll a) hm
  have hn : (namesN (chN 0 10 k ++ [mAll a])).Nodup := by rw [hnm]; exact ch_nodup hk
  have hl : (namesN (chN 0 10 k ++ [mAll a])).length = k := by rw [hnm, chN_names, List.length_map, List.length_range']
  rw [← hl]
  refine nodup_len h.nodup hn fun x => ⟨h.names x, fun hx => ?_⟩
  rw [hnm, chN_names] at hx
  obtain ⟨i, h1, h2⟩ := List.mem_map.1 hx
  rw [List.mem_range'] at h1
  obtain ⟨q, h3, rfl⟩ := h1
  subst h2
  rw [h.all hn, Nat.one_mul]
  exact rch_all (by omega) h0 hm (c := mAll a) (by rw [callN_mAll]; exact List.mem_singleton.2 rfl) rfl q h3
theorem ch_one {k a : Nat} (hk : k + 1 ≤ 20) {R : List ByteArray} (h : RchIs (chN 0 10 (k + 1) ++ [mLast a (10 + k)]) R) : R = [ofL (nmB (10 + k))] := by
  have hm : (mLast a (10 + k)).k ≠ 6 := by show (2 : Int) ≠ 6; decide
  have hn : (namesN (chN 0 10 (k + 1) ++ [mLast a (10 + k)])).Nodup := by rw [names_main _ _ hm]; exact ch_nodup (by omega)
  refine asc_same h.asc (List.pairwise_singleton _ _) fun x => ?_
  rw [h.all hn, rch_last (by omega) hm (callN_mLast a (10 + k)) rfl, List.mem_singleton]
theorem ch_none {k : Nat} (hk : k ≤ 20) {R : List ByteArray} (h : RchIs (chN 0 10 k) R) : R = [] := by
  rw [List.eq_nil_iff_forall_not_mem]
  intro x hx
  exact rch_none x ((h.all (ch_nodup hk) x).1 hx)
end Go.Proofs.YtkipmaoeejdncaaDoor

namespace Go.Proofs.YtkipmaoeejdncaaDoor
open Go.RowKit Go.BigFrame NT
set_option linter.unusedVariables false
set_option linter.unusedSimpArgs false

def decB (i : Nat) : ByteArray := ofL (Lib.decDigits i)
theorem itoa14 (i : Nat) (hi : i < 100) (w : World) : Calls Tryd.prog 5 #[.int .i64 i] w fun e w' => e = .returned (.string (decB i)) ∧ w' = w :=
  (Any.strconv_Itoa_small Tryd.laysIT i hi w).mono fun e w' h => h
theorem decB_size {i : Nat} (h : i < 70) : (decB i).size ≤ 2 := by
  have h1 := nm_len i
  rw [nm_dec h, List.length_cons] at h1
  show (Lib.decDigits i).length ≤ 2
  split at h1 <;> omega
/-- slices.IsSorted of an ascending list. -/
theorem sorted14 {w : World} {A : Option Addr} {l : List ByteArray} (h : Strs w A l) (hl : l.length ≤ 1000000) (ha : l.Pairwise bLt) {n : Nat} (hn : n = l.length) (c : Nat) :
    Calls Tryd.prog 11 #[.slice A n c] w fun e w' => e = .returned (.bool true) ∧ Bel w w' := by
  subst hn
  rcases h with h | ⟨g, o, rfl, _, hg⟩
  · subst h
    refine (AnyO.slices_IsSorted_string_none Tryd.laysIS A c w).mono ?_
    rintro e w' ⟨rfl, rfl⟩
    exact ⟨rfl, Bel.refl _⟩
  · have hz : l.toArray.size = l.length := by simp
    have := AnyO.slices_IsSorted_string Tryd.laysIS g o c l.toArray w (fun i hi => by
      rw [hz] at hi
      rw [hg i hi]
      simp [List.getD_eq_getElem?_getD, hi]) (by rw [hz]; omega)
    rw [hz] at this
    refine this.mono ?_
    rintro e w' ⟨rfl, q, rfl⟩
    refine ⟨?_, Bel.draw _ _⟩
    congr 2
    rw [Lib.downOK_iff]
    intro i hi
    have h1 := (List.pairwise_iff_getElem.1 ha) i (i + 1) (by omega) (by omega) (by omega)
    have e1 : l.toArray[i + 1]! = l[i + 1] := by simp [show i + 1 < l.length by omega]
    have e2 : l.toArray[i]! = l[i] := by simp [show i < l.length by omega]
    rw [e1, e2]
    refine decide_eq_false fun h2 => ?_
    exact List.lt_irrefl _ (List.lt_trans h1 h2)
/-! ### Strings put together -/
theorem toL_add14 (a b : ByteArray) : toL (a ++ b) = toL a ++ toL b := by unfold toL; simp
theorem add_ofL {a b c : List UInt8} (h : a ++ b = c) : ofL a ++ ofL b = ofL c := toL_inj (by rw [toL_add14, toL_ofL, toL_ofL, toL_ofL, h])
theorem sz_ofL (l : List UInt8) : (ofL l).size = l.length := rfl
/-- One more definition. -/
theorem cat_def (i : Nat) (h : i < 70) : (ofL (sdL 0 i) ++ ((⟨#[123, 123, 100, 101, 102, 105, 110, 101, 32, 102]⟩ ++ decB i) ++ ⟨#[125, 125, 123, 123, 101, 110, 100, 125, 125]⟩)) = ofL (sdL 0 (i + 1)) := by
  apply toL_inj
  rw [toL_add14, toL_add14, toL_add14, toL_ofL, toL_ofL, sdL_snoc, defL, nm_dec h]
  show sdL 0 i ++ (([123, 123, 100, 101, 102, 105, 110, 101, 32, 102] ++ Lib.decDigits i) ++ [125, 125, 123, 123, 101, 110, 100, 125, 125]) = _
  simp [enL]
/-- The same once more. -/
theorem cat_twice (k j : Nat) (h : j < 70) : (((ofL (sdL 0 k) ++ ⟨#[123, 123, 100, 101, 102, 105, 110, 101, 32, 102]⟩) ++ decB j) ++ ⟨#[125, 125, 123, 123, 101, 110, 100, 125, 125]⟩) = ofL (sdL 0 k ++ (defL j ++ enL)) := by
  apply toL_inj
  rw [toL_add14, toL_add14, toL_add14, toL_ofL, toL_ofL, defL, nm_dec h]
  show ((sdL 0 k ++ [123, 123, 100, 101, 102, 105, 110, 101, 32, 102]) ++ Lib.decDigits j) ++ [125, 125, 123, 123, 101, 110, 100, 125, 125] = _
  simp [enL]
end Go.Proofs.YtkipmaoeejdncaaDoor
