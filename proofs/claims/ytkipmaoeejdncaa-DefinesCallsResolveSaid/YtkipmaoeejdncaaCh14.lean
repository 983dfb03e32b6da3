/-
  Chains of definitions, as plain data: sources, tokens, nodes; what is reachable in them. No program is imported here.
-/
import Derived.Test.YtkipmaoeejdncaaDn14
namespace Go.Proofs.Ytkipmaoeejdncaa
open NT
set_option linter.unusedVariables false
set_option linter.unusedSimpArgs false

/-- n definitions, the first of number j, each with a call of the next one; from offset a on. -/
def chL : Nat → Nat → List UInt8
  | _, 0 => []
  | j, n + 1 => defL j ++ ((if n = 0 then [] else callL (j + 1)) ++ (enL ++ chL (j + 1) n))
def chE (a j n : Nat) : Nat := a + (defL j).length + (if n = 0 then 0 else (callL (j + 1)).length)
def chT : Nat → Nat → Nat → List Tok
  | _, _, 0 => []
  | a, j, n + 1 => defT a j :: ((if n = 0 then [] else [callT (a + (defL j).length) (j + 1)]) ++ (enT (chE a j n) :: chT (chE a j n + 7) (j + 1) n))
def chN : Nat → Nat → Nat → List NT
  | _, _, 0 => []
  | a, j, n + 1 => nd (defT a j) false (if n = 0 then [] else [nd (callT (a + (defL j).length) (j + 1)) false [] []]) [] :: chN (chE a j n + 7) (j + 1) n
def chC : Nat → Nat
  | 0 => 0
  | n + 1 => 1 + (if n = 0 then 0 else 1) + chC n
theorem chC_le : ∀ n, chC n ≤ 2 * n
  | 0 => Nat.le_refl _
  | n + 1 => by rw [chC]; have := chC_le n; split <;> omega
theorem ch_lx : ∀ (n j a : Nat) (r : List UInt8) (ts : List Tok), j + n ≤ 69 → Lx r (a + (chL j n).length) ts → Lx (chL j n ++ r) a (chT a j n ++ ts)
  | 0, j, a, r, ts, _, h => by simpa [chL, chT] using h
  | n + 1, j, a, r, ts, hj, h => by
    have h7 : enL.length = 7 := rfl
    rw [chL, List.length_append, List.length_append, List.length_append, h7] at h
    rw [chL, chT, List.append_assoc, List.append_assoc, List.append_assoc, List.cons_append, List.append_assoc, List.cons_append]
    refine (def_dir (by omega)).lx ?_
    have tail : Lx (enL ++ (chL (j + 1) n ++ r)) (chE a j n) (enT (chE a j n) :: (chT (chE a j n + 7) (j + 1) n ++ ts)) := by
      refine end_dir.lx (ch_lx n (j + 1) _ r ts (by omega) ?_)
      rw [h7]
      have e : chE a j n + 7 + (chL (j + 1) n).length = a + ((defL j).length + ((if n = 0 then [] else callL (j + 1)).length + (7 + (chL (j + 1) n).length))) := by
        unfold chE
        by_cases hn : n = 0
        · rw [if_pos hn, if_pos hn]; simp only [List.length_nil]; omega
        · rw [if_neg hn, if_neg hn]; omega
      rw [e]
      exact h
    by_cases hn : n = 0
    · subst hn
      have e0 : chE a j 0 = a + (defL j).length := by simp [chE]
      rw [if_pos rfl, if_pos rfl, List.nil_append, List.nil_append]
      rw [e0] at tail ⊢
      exact tail
    · rw [if_neg hn, if_neg hn]
      refine (call_dir (by omega)).lx ?_
      unfold chE at tail ⊢
      rw [if_neg hn] at tail ⊢
      exact tail
theorem ch_P : ∀ (n a j : Nat) (ts : List Tok) (c : Nat), c + chC n ≤ 4096 → P (chT a j n ++ ts) 0 false 0 c = PR.pre (chN a j n) (P ts 0 false 0 (c + chC n))
  | 0, a, j, ts, c, _ => by rw [chT, chN, List.nil_append, pre_nil]; rfl
  | n + 1, a, j, ts, c, hc => by
    rw [chC] at hc
    rw [chT, chN, List.cons_append, List.append_assoc, List.cons_append]
    by_cases hn : n = 0
    · subst hn
      rw [if_pos rfl] at hc
      rw [if_pos rfl, if_pos rfl, List.nil_append]
      rw [P_step_block (by rintro (⟨_, h⟩ | ⟨_, h⟩) <;> omega) (by omega) rfl, P_end rfl, if_neg (by simp [defT])]
      dsimp only
      rw [if_neg (by simp [enT]), ch_P 0 _ _ ts (c + 1) (by simp [chC]; omega), cons_pre]
      rfl
    · rw [if_neg hn] at hc
      rw [if_neg hn, if_neg hn, List.singleton_append]
      rw [P_step_block (by rintro (⟨_, h⟩ | ⟨_, h⟩) <;> omega) (by omega) rfl, P_leaf (by simp [callT]) (by simp [callT]) (by omega) rfl, P_end rfl, if_neg (by simp [defT])]
      dsimp only [PR.cons]
      rw [if_neg (by simp [enT]), ch_P n _ (j + 1) ts (c + 1 + 1) (by omega)]
      rw [show c + chC (n + 1) = c + 1 + 1 + chC n by rw [chC, if_neg hn]; omega]
      exact cons_pre _ _ _
theorem chL_len : ∀ (n j : Nat), (chL j n).length ≤ 33 * n
  | 0, j => by simp [chL]
  | n + 1, j => by
    have h7 : enL.length = 7 := rfl
    have := chL_len n (j + 1)
    have h1 : (if n = 0 then [] else callL (j + 1)).length ≤ 12 := by
      split
      · simp
      · rw [callL_len, nm_len]; split <;> omega
    have h2 : (defL j).length ≤ 14 := by rw [defL_len, nm_len]; split <;> omega
    rw [chL, List.length_append, List.length_append, List.length_append, h7]
    omega
theorem chN_names : ∀ (n a j : Nat), namesN (chN a j n) = (List.range' j n).map fun i => ofL (nmB i)
  | 0, a, j => rfl
  | n + 1, a, j => by
    have := chN_names n (chE a j n + 7) (j + 1)
    rw [chN, List.range'_succ, List.map_cons, ← this]
    rfl
theorem names_nodup {n j : Nat} (h : j + n ≤ 70) : ((List.range' j n).map fun i => ofL (nmB i)).Nodup := by
  rw [List.nodup_iff_pairwise_ne, List.pairwise_map]
  have := List.pairwise_lt_range' (s := j) (n := n) (step := 1)
  refine this.imp_of_mem (fun {x y} hx hy hlt e => ?_)
  rw [List.mem_range'] at hx hy
  obtain ⟨_, _, rfl⟩ := hx
  obtain ⟨_, _, rfl⟩ := hy
  have := nm_inj (by omega) (by omega) (ofL_inj e)
  omega
theorem chN_main : ∀ (n a j : Nat), mainN (chN a j n) = []
  | 0, a, j => rfl
  | n + 1, a, j => by
    have := chN_main n (chE a j n + 7) (j + 1)
    rw [chN]
    unfold mainN at this ⊢
    rw [List.filter_cons, if_neg (by simp [isDef, nd, NT.k, defT]), this]
/-- What each of the definitions is like. -/
theorem mem_ch : ∀ (n a j : Nat) (t : NT), t ∈ chN a j n → ∃ i, i < n ∧ t.k = 6 ∧ t.s = ofL (nmB (j + i)) ∧ (i + 1 < n → ∃ c, c ∈ callNs t.b ∧ c.s = ofL (nmB (j + i + 1))) ∧ (i + 1 = n → callNs t.b = [])
  | 0, a, j, t, h => by rw [chN] at h; cases h
  | n + 1, a, j, t, h => by
    rw [chN] at h
    rcases List.mem_cons.1 h with rfl | h
    · refine ⟨0, by omega, rfl, rfl, fun hn => ?_, fun hn => ?_⟩
      · have hn : ¬ n = 0 := by omega
        refine ⟨nd (callT (a + (defL j).length) (j + 1)) false [] [], ?_, rfl⟩
        show _ ∈ callNs (if n = 0 then [] else _)
        rw [if_neg hn, callNs_cons, callN_eq, callNs_nil]
        simp [nd, NT.k, NT.b, NT.l, callNs_nil, callT]
      · have hn : n = 0 := by omega
        show callNs (if n = 0 then [] else _) = []
        rw [if_pos hn, callNs_nil]
    · obtain ⟨i, h1, h2, h3, h4, h5⟩ := mem_ch n _ _ t h
      refine ⟨i + 1, by omega, h2, by rw [h3, show j + 1 + i = j + (i + 1) by omega], fun hn => ?_, fun hn => h5 (by omega)⟩
      obtain ⟨c, c1, c2⟩ := h4 (by omega)
      exact ⟨c, c1, by rw [c2, show j + 1 + i + 1 = j + (i + 1) + 1 by omega]⟩
theorem findN_append {l m : List NT} {n : ByteArray} (h : ∀ t, t ∈ m → t.k ≠ 6) {d : NT} (hd : findN (l ++ m) n = some d) : d ∈ l := by
  obtain ⟨h1, h2, h3⟩ := findN_some hd
  rcases List.mem_append.1 h1 with h1 | h1
  · exact h1
  · exact absurd h2 (h d h1)
theorem namesN_append (l m : List NT) : namesN (l ++ m) = namesN l ++ namesN m := by simp [namesN, defsN]
theorem mainN_append (l m : List NT) : mainN (l ++ m) = mainN l ++ mainN m := by simp [mainN]
/-- A chain and one main node. -/
theorem rch_all {n j a : Nat} {m : NT} (hj : j + n ≤ 69) (hn : 0 < n) (hm : m.k ≠ 6) {c : NT} (hc : c ∈ callN m) (hs : c.s = ofL (nmB j)) : ∀ i, i < n → Rch (chN a j n ++ [m]) (ofL (nmB (j + i))) := by
  have hnm : ∀ i, i < n → ofL (nmB (j + i)) ∈ namesN (chN a j n ++ [m]) := fun i hi => by
    rw [namesN_append, List.mem_append, chN_names]
    exact .inl (List.mem_map.2 ⟨j + i, List.mem_range'.2 ⟨i, hi, by omega⟩, rfl⟩)
  have hmain : mainN (chN a j n ++ [m]) = [m] := by
    rw [mainN_append, chN_main]
    simp [mainN, isDef, hm]
  intro i
  induction i with
  | zero =>
    intro hi
    rw [Nat.add_zero, ← hs]
    refine Rch.main c (by rw [hmain, callNs_cons, callNs_nil, List.append_nil]; exact hc) ?_
    rw [hs]
    exact hnm 0 hn
  | succ i ih =>
    intro hi
    have h1 := ih (by omega)
    obtain ⟨d, hd⟩ := findN_of_mem (hnm i (by omega))
    obtain ⟨_, hk, hds⟩ := findN_some hd
    have hmem := findN_append (fun t ht => by simp at ht; subst ht; exact hm) hd
    obtain ⟨i', h2, h3, h4, h5, h6⟩ := mem_ch n a j d hmem
    have : i' = i := by
      have := nm_inj (by omega) (by omega) (ofL_inj (h4.symm.trans hds))
      omega
    subst this
    obtain ⟨c', c1, c2⟩ := h5 (by omega)
    rw [show j + (i' + 1) = j + i' + 1 by omega, ← c2]
    refine Rch.step _ d c' h1 hd c1 ?_
    rw [c2]
    exact hnm (i' + 1) hi
theorem rch_last {n j a : Nat} {m c : NT} (hj : j + n + 1 ≤ 69) (hm : m.k ≠ 6) (hc : callN m = [c]) (hs : c.s = ofL (nmB (j + n))) (x : ByteArray) : Rch (chN a j (n + 1) ++ [m]) x ↔ x = ofL (nmB (j + n)) := by
  have hmain : mainN (chN a j (n + 1) ++ [m]) = [m] := by
    rw [mainN_append, chN_main]
    simp [mainN, isDef, hm]
  constructor
  · intro h
    induction h with
    | main c' h1 h2 =>
      rw [hmain, callNs_cons, callNs_nil, List.append_nil, hc] at h1
      simp at h1
      subst h1
      exact hs
    | step y d c' h0 h1 h2 h3 ih =>
      subst ih
      obtain ⟨_, hk, hds⟩ := findN_some h1
      have hmem := findN_append (fun t ht => by simp at ht; subst ht; exact hm) h1
      obtain ⟨i', h4, h5, h6, h7, h8⟩ := mem_ch (n + 1) a j d hmem
      have : i' = n := by
        have := nm_inj (by omega) (by omega) (ofL_inj (h6.symm.trans hds))
        omega
      subst this
      rw [h8 rfl] at h2
      cases h2
  · rintro rfl
    rw [← hs]
    refine Rch.main c (by rw [hmain, callNs_cons, callNs_nil, List.append_nil, hc]; simp) ?_
    rw [hs, namesN_append, List.mem_append, chN_names]
    exact .inl (List.mem_map.2 ⟨j + n, List.mem_range'.2 ⟨n, by omega, by omega⟩, rfl⟩)
theorem rch_none {n j a : Nat} (x : ByteArray) : ¬ Rch (chN a j n) x := by
  intro h
  induction h with
  | main c' h1 h2 => rw [chN_main, callNs_nil] at h1; cases h1
  | step _ _ _ _ _ _ _ ih => exact ih
/-- Two lists without duplicates that hold the same are equally long. -/
theorem nodup_len_le : ∀ (l m : List (List UInt8)), l.Nodup → (∀ x, x ∈ l → x ∈ m) → l.length ≤ m.length
  | [], m, _, _ => Nat.zero_le _
  | x :: l, m, hn, h => by
    rw [List.nodup_cons] at hn
    have h1 := nodup_len_le l (m.erase x) hn.2 (fun y hy => by
      have hne : y ≠ x := fun e => hn.1 (e ▸ hy)
      exact (List.mem_erase_of_ne hne).2 (h y (by simp [hy])))
    rw [List.length_erase_of_mem (h x (by simp))] at h1
    have : 0 < m.length := List.length_pos_of_mem (h x (by simp))
    simp
    omega
theorem nodup_len {l m : List ByteArray} (hl : l.Nodup) (hm : m.Nodup) (h : ∀ x, x ∈ l ↔ x ∈ m) : l.length = m.length := by
  have inj : ∀ k : List ByteArray, k.Nodup → (k.map toL).Nodup := fun k hk => by
    rw [List.nodup_iff_pairwise_ne, List.pairwise_map]
    exact (List.nodup_iff_pairwise_ne.1 hk).imp (fun hne e => hne (toL_inj e))
  have mm : ∀ {k q : List ByteArray}, (∀ x, x ∈ k → x ∈ q) → ∀ y, y ∈ k.map toL → y ∈ q.map toL := fun hk y hy => by
    obtain ⟨x, hx, rfl⟩ := List.mem_map.1 hy
    exact List.mem_map.2 ⟨x, hk x hx, rfl⟩
  have h1 := nodup_len_le _ _ (inj l hl) (mm fun x hx => (h x).1 hx)
  have h2 := nodup_len_le _ _ (inj m hm) (mm fun x hx => (h x).2 hx)
  simp at h1 h2
  omega
end Go.Proofs.Ytkipmaoeejdncaa
