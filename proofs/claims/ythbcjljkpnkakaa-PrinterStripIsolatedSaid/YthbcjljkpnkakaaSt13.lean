/-
  The walk of Strip, as states of memory: each node is turned before the walk goes into it; what is there at the end. No function of the program's is walked here.
  Contracts: slices.Clone of nodes; the program's Strip.
  What the laws want of the program's Strip.
-/
import Derived.Test.YthbcjljkpnkakaaWk13
import Derived.Test.YthbcjljkpnkakaaRlist
import Derived.Test.YthbcjljkpnkakaaEp13
import Derived.Test.YthbcjljkpnkakaaLp13
namespace Go.Proofs.Ythbcjljkpnkakaa
open Go.RowKit Go.BigFrame Go.Shelf NT
set_option linter.unusedVariables false
set_option linter.unusedSimpArgs false

/-- Of the cells that were there only those of blocks S have turned. -/
def OnlyC (S : Nat → Prop) (s s' : World) : Prop := s.heap.size ≤ s'.heap.size ∧ ∀ k o, s.heap[k]? = some o → o.isCells = true → ¬ S k → s'.heap[k]? = some o
theorem OnlyC.refl (S : Nat → Prop) (s : World) : OnlyC S s s := ⟨Nat.le_refl _, fun _ _ h _ _ => h⟩
theorem OnlyC.blk {S : Nat → Prop} {s s' : World} (h : OnlyC S s s') {g : Nat} {T : TypeId} {cs : List Value} (hb : Blk s g T cs) (hg : ¬ S g) : Blk s' g T cs := h.2 g _ hb rfl hg
theorem OnlyC.join {S S' S2 : Nat → Prop} {a b c : World} (h : OnlyC S a b) (k : OnlyC S' b c) (h1 : ∀ x, S x → S2 x) (h2 : ∀ x, S' x → S2 x ∨ a.heap.size ≤ x) : OnlyC S2 a c :=
  ⟨Nat.le_trans h.1 k.1, fun x o hx ho hn => k.2 x o (h.2 x o hx ho (fun hs => hn (h1 x hs))) ho (fun hs => (h2 x hs).elim hn (fun hle => by
    have := (Array.getElem?_eq_some_iff.1 hx).1
    omega))⟩
theorem KRow.onlyC {S : Nat → Prop} {s s' : World} (h : OnlyC S s s') {α : Type} {e : TypeId} {z : Nat} {f : α → List Value} {A : Option Addr} {c : Nat} {l : List α} (hr : KRow s e z f A c l) (hS : ∀ k, k ∈ rowT A → ¬ S k) : KRow s' e z f A c l := by
  refine ⟨RowK.len hr, RowK.le hr, RowK.max hr, RowK.none_ hr, fun ad ha => ?_⟩
  obtain ⟨g, o, cur, rfl, hb, h1, h2⟩ := RowK.some_ hr ad ha
  exact ⟨g, o, cur, rfl, h.blk hb (hS g (mem_rowT.2 ⟨_, ha, rfl⟩)), h1, h2⟩
/-- A new block of cells. -/
def Nw (s s' : World) (b : Nat) : Prop := s.heap.size ≤ b ∧ ∃ T cs, Blk s' b T cs
theorem nw_mono {s s1 s2 : World} (h : s.heap.size ≤ s1.heap.size) {t : NT} (ht : t.In s2 (Nw s1 s2)) : t.In s2 (Nw s s2) := ht.same (fun b hb => ⟨Nat.le_trans h hb.1, hb.2⟩) (fun _ _ _ => rfl)
theorem nw_step {S : Nat → Prop} {s s1 s2 : World} (h : OnlyC S s1 s2) (hS : ∀ b, S b → b < s.heap.size) {t : NT} (ht : t.In s1 (Nw s s1)) : t.In s2 (Nw s s2) := by
  have key : ∀ b T cs, s.heap.size ≤ b → Blk s1 b T cs → Blk s2 b T cs := fun b T cs hb hk => h.blk hk (fun hs => by have := hS b hs; omega)
  refine ht.same (fun b hb => ?_) (fun b p hb => ?_)
  · obtain ⟨h1, T, cs, h2⟩ := hb
    exact ⟨h1, T, cs, key b T cs h1 h2⟩
  · obtain ⟨h1, T, cs, h2⟩ := hb
    rw [(key b T cs h1 h2).cell, h2.cell]
theorem krow_at {s s' : World} {G : Option Addr} {d : Nat} {ms : List NT} (h : KRow s' 33 8 NT.cs G d ms) (hG : ∀ k, k ∈ rowT G → s.heap.size ≤ k) (hl : ms.length * 104 ≤ reachBytes) : At s' (Nw s s') G d ms := by
  refine ⟨⟨h.le, h.max, hl⟩, fun h0 => ?_⟩
  obtain ⟨g, o, hA, hg, _⟩ := h.at_ NT.cs_len (List.getElem?_eq_getElem h0) (by decide)
  obtain ⟨g2, o2, cur, e, hb, _⟩ := RowK.some_ h _ hA
  injection e with e1 e2
  subst e1 e2
  refine ⟨g, o, hA, ⟨hG g (by rw [hA]; simp [rowT]), _, _, hb⟩, fun i x hi => ?_⟩
  obtain ⟨g', o', hA1, hg', hc⟩ := h.at_ NT.cs_len hi (by decide)
  rw [hA] at hA1
  injection hA1 with hA1
  injection hA1 with e1 e2
  subst e1 e2
  exact hc
/-! ### The states -/
def stPre (w s : World) (x : Vis) : Prop := x.q ≤ 2 ∧ (x.q = 0 → x.t.In w (Lt w) ∧ w.heap.size ≤ x.g ∧ ∃ cur, Blk s x.g 33 cur ∧ ∀ j u, x.t.cs[j]? = some u → cur[x.o + j]? = some u)
/-- A node is turned: its body, its else branch are copies, its offset is 0. -/
def stTurn (s : World) (x : Vis) (s' : World) : Prop := OnlyC (· = x.g) s s' ∧ ∃ G1 d1 G2 d2, KRow s' 33 8 NT.cs G1 d1 x.t.b ∧ KRow s' 33 8 NT.cs G2 d2 x.t.l ∧ (∀ k, k ∈ rowT G1 → s.heap.size ≤ k) ∧ (∀ k, k ∈ rowT G2 → s.heap.size ≤ k ∧ k ∉ rowT G1) ∧
  ∀ cur, Blk s x.g 33 cur → Blk s' x.g 33 (((cur.set (x.o + 1) (.int .i64 0)).set (x.o + 6) (.slice G1 x.t.b.length d1)).set (x.o + 7) (.slice G2 x.t.l.length d2))
def stNx (s : World) (x : Vis) (s' : World) : Prop := (x.q = 0 → stTurn s x s') ∧ (x.q ≠ 0 → s' = s)
def stRd (s : World) (g o : Nat) (v : Value) : Prop := s.cell? ⟨g, o, none⟩ = some v
abbrev stN (w : World) : NT → Nat → Nat → World → (World → Prop) → Prop := runN (stPre w) stNx stRd
abbrev stNs (w : World) : List NT → Option Addr → Nat → World → (World → Prop) → Prop := runNs (stPre w) stNx stRd
def StM (w : World) (t : NT) : Prop := ∀ (s : World) (g o : Nat) (cur : List Value) (Q : World → Prop), t.In w (Lt w) → w.heap.size ≤ g → Blk s g 33 cur → (∀ j u, t.cs[j]? = some u → cur[o + j]? = some u) →
  (∀ (s' : World) (t' : NT) (cur' : List Value), OnlyC (· = g) s s' → Blk s' g 33 cur' → (∀ p, cur'[p]? = if o ≤ p ∧ p < o + 8 then t'.cs[p - o]? else cur[p]?) → t'.er = t.strip → t'.In s' (Nw s s') → Q s') → stN w t g o s Q
def StL (w : World) (r : List NT) : Prop := ∀ (s : World) (G : Option Addr) (d : Nat) (Q : World → Prop), (∀ x, x ∈ r → x.In w (Lt w)) → KRow s 33 8 NT.cs G d r → (∀ k, k ∈ rowT G → w.heap.size ≤ k) →
  (∀ (s' : World) (ms : List NT), OnlyC (· ∈ rowT G) s s' → KRow s' 33 8 NT.cs G d ms → ers ms = strips r → (∀ x, x ∈ ms → x.In s' (Nw s s')) → Q s') → stNs w r G 0 s Q
theorem st_row (w : World) : ∀ (r : List NT), (∀ x, x ∈ r → StM w x) → ∀ (i : Nat) (s : World) (g o : Nat) (cur : List Value) (Q : World → Prop), (∀ x, x ∈ r → x.In w (Lt w)) → w.heap.size ≤ g → Blk s g 33 cur →
    (∀ j x, r[j]? = some x → ∀ p u, x.cs[p]? = some u → cur[o + (i + j) * 8 + p]? = some u) →
    (∀ (s' : World) (ms : List NT) (cur' : List Value), OnlyC (· = g) s s' → Blk s' g 33 cur' → (∀ j x, ms[j]? = some x → ∀ p u, x.cs[p]? = some u → cur'[o + (i + j) * 8 + p]? = some u) → (∀ p, (p < o + i * 8 ∨ o + (i + r.length) * 8 ≤ p) → cur'[p]? = cur[p]?) →
      ers ms = strips r → (∀ x, x ∈ ms → x.In s' (Nw s s')) → Q s') → stNs w r (some ⟨g, o, none⟩) i s Q
  | [], _, i, s, g, o, cur, Q, hI, hg, hb, hc, hQ => (runNs_nil ..).2 (hQ s [] cur (OnlyC.refl _ _) hb (by simp) (fun _ _ => rfl) (by simp [ers, strips]) (by simp))
  | x :: r, h, i, s, g, o, cur, Q, hI, hg, hb, hc, hQ => by
    refine (runNs_cons ..).2 ⟨g, o, rfl, h x (by simp) s g (o + i * 8) cur _ (hI x (by simp)) hg hb (fun j u hu => by have := hc 0 x rfl j u hu; simpa using this) ?_⟩
    intro s1 t1 cur1 h1 hb1 hc1 he1 hi1
    refine st_row w r (fun y hy => h y (by simp [hy])) (i + 1) s1 g o cur1 Q (fun y hy => hI y (by simp [hy])) hg hb1 (fun j y hy p u hu => ?_) ?_
    · have hp : p < 8 := (List.getElem?_eq_some_iff.1 hu).1
      rw [hc1, if_neg (by omega), show o + (i + 1 + j) * 8 + p = o + (i + (j + 1)) * 8 + p by omega]
      exact hc (j + 1) y (by simpa using hy) p u hu
    · intro s2 ms cur2 h2 hb2 hc2 hk2 he2 hi2
      refine hQ s2 (t1 :: ms) cur2 (h1.join h2 (fun _ h => h) (fun _ h => .inl h)) hb2 ?_ ?_ ?_ ?_
      · intro j y hy p u hu
        cases j with
        | zero =>
          simp at hy
          subst hy
          have hp : p < 8 := (List.getElem?_eq_some_iff.1 hu).1
          rw [Nat.add_zero, hk2 _ (.inl (by omega)), hc1, if_pos (by omega), show o + i * 8 + p - (o + i * 8) = p by omega]
          exact hu
        | succ j =>
          rw [show o + (i + (j + 1)) * 8 + p = o + (i + 1 + j) * 8 + p by omega]
          exact hc2 j y (by simpa using hy) p u hu
      · intro p hp
        rw [List.length_cons] at hp
        rw [hk2 p (by omega), hc1, if_neg (by omega)]
      · rw [show ers (t1 :: ms) = er t1 :: ers ms by simp [ers], show strips (x :: r) = strip x :: strips r by simp [strips], he1, he2]
      · intro y hy
        rcases List.mem_cons.1 hy with rfl | hy
        · exact nw_step h2 (fun b e => by subst e; exact hb.lt) hi1
        · exact nw_mono h1.1 (hi2 y hy)
theorem flat_of_cells {ms : List NT} {cur : List Value} {o n : Nat} (hn : ms.length = n) (hl : o + n * 8 ≤ cur.length) (hc : ∀ j x, ms[j]? = some x → ∀ p u, x.cs[p]? = some u → cur[o + j * 8 + p]? = some u) : (cur.drop o).take (n * 8) = flat NT.cs ms := by
  subst hn
  apply List.ext_getElem?
  intro q
  rw [List.getElem?_take]
  by_cases hq : q < ms.length * 8
  · rw [if_pos hq, List.getElem?_drop]
    have hdm : q / 8 * 8 + q % 8 = q := by omega
    obtain ⟨x, hx⟩ : ∃ x, ms[q / 8]? = some x := ⟨_, List.getElem?_eq_getElem (by omega)⟩
    obtain ⟨u, hu⟩ : ∃ u, x.cs[q % 8]? = some u := ⟨_, List.getElem?_eq_getElem (by rw [NT.cs_len]; omega)⟩
    have h1 := hc _ x hx _ u hu
    have h2 := flat_at (f := NT.cs) (z := 8) NT.cs_len hx (j := q % 8) (by omega)
    rw [hdm] at h2
    rw [h2, hu, ← h1]
    congr 1
    omega
  · rw [if_neg hq, List.getElem?_eq_none (by rw [flat_length (f := NT.cs) (z := 8) NT.cs_len]; omega)]
theorem st_list (w : World) (r : List NT) (h : ∀ x, x ∈ r → StM w x) : StL w r := by
  intro s G d Q hI hK hG hQ
  by_cases hr : r = []
  · subst hr
    exact (runNs_nil ..).2 (hQ s [] (OnlyC.refl _ _) hK (by simp [ers, strips]) (by simp))
  obtain ⟨n, hn⟩ : ∃ n, n = r.length := ⟨_, rfl⟩
  have h0 : 0 < r.length := by
    rcases Nat.eq_zero_or_pos r.length with h | h
    · exact absurd (List.eq_nil_of_length_eq_zero h) hr
    · exact h
  obtain ⟨g, o, hA, _, _⟩ := hK.at_ NT.cs_len (List.getElem?_eq_getElem h0) (by decide)
  obtain ⟨g2, o2, cur, e, hb, hl, htk⟩ := RowK.some_ hK _ hA
  injection e with e1 e2
  subst e1 e2
  subst hA
  have hle := hK.le
  refine st_row w r h 0 s g o cur Q hI (hG g (by simp [rowT])) hb (fun j x hx p u hu => ?_) ?_
  · have hp : p < 8 := (List.getElem?_eq_some_iff.1 hu).1
    have hj := (List.getElem?_eq_some_iff.1 hx).1
    have h1 := flat_at (f := NT.cs) (z := 8) NT.cs_len hx hp
    rw [← htk, List.getElem?_take, if_pos (by omega), List.getElem?_drop, hu] at h1
    rw [Nat.zero_add, Nat.add_assoc]
    exact h1
  · intro s' ms cur' h1 hb' hc' hk' he' hi'
    have hml : ms.length = r.length := by rw [← ers_len ms, he', strips_map, List.length_map]
    refine hQ s' ms ⟨h1.1, fun k o' hk ho hn => h1.2 k o' hk ho (fun e => hn (by subst e; simp [rowT]))⟩ ?_ he' hi'
    have hcl : o + d * 8 ≤ cur'.length := by
      by_cases hlt : o + d * 8 ≤ cur'.length
      · exact hlt
      · exfalso
        have hz : 0 < d := by omega
        by_cases hq : o + r.length * 8 ≤ o + d * 8 - 1
        · have := hk' (o + d * 8 - 1) (.inr (by omega))
          rw [List.getElem?_eq_none (by omega)] at this
          rw [List.getElem?_eq_getElem (by omega)] at this
          cases this
        · have hd : r.length = d := by omega
          obtain ⟨x, hx⟩ : ∃ x, ms[d - 1]? = some x := ⟨_, List.getElem?_eq_getElem (by omega)⟩
          have := hc' _ x hx 7 (.slice x.B x.l.length x.d) rfl
          have := (List.getElem?_eq_some_iff.1 this).1
          omega
    refine ⟨by rw [flat_length (f := NT.cs) (z := 8) NT.cs_len], by omega, hK.max, (fun h => by cases h), fun ad ha => ?_⟩
    injection ha with ha
    subst ha
    exact ⟨g, o, cur', rfl, hb', hcl, flat_of_cells rfl (by omega) (fun j x hx p u hu => by have := hc' j x hx p u hu; rwa [Nat.zero_add] at this)⟩
theorem set3_at (cur : List Value) (o : Nat) (v1 v6 v7 : Value) (hl : o + 8 ≤ cur.length) (p : Nat) : (((cur.set (o + 1) v1).set (o + 6) v6).set (o + 7) v7)[p]? = if p = o + 7 then some v7 else if p = o + 6 then some v6 else if p = o + 1 then some v1 else cur[p]? := by
  by_cases h7 : p = o + 7
  · subst h7
    rw [if_pos rfl, List.getElem?_set_self (by simp only [List.length_set]; omega)]
  rw [if_neg h7, List.getElem?_set_ne (by omega)]
  by_cases h6 : p = o + 6
  · subst h6
    rw [if_pos rfl, List.getElem?_set_self (by simp only [List.length_set]; omega)]
  rw [if_neg h6, List.getElem?_set_ne (by omega)]
  by_cases h1 : p = o + 1
  · subst h1
    rw [if_pos rfl, List.getElem?_set_self (by omega)]
  rw [if_neg h1, List.getElem?_set_ne (by omega)]
theorem st_one (w : World) (t : NT) : StM w t := by
  refine NT.ind (M := StM w) (fun t ihb ihl => ?_) t
  intro s g o cur Q hI hg hb hc hQ
  have hcl : o + 8 ≤ cur.length := by
    have := hc 7 (.slice t.B t.l.length t.d) rfl
    have := (List.getElem?_eq_some_iff.1 this).1
    omega
  refine (runN_eq ..).2 ⟨⟨by simp, fun _ => ⟨hI, hg, cur, hb, hc⟩⟩, ?_⟩
  rintro s1 ⟨hn, _⟩
  obtain ⟨h1, G1, d1, G2, d2, k1, k2, f1, f2, hcur⟩ := hn rfl
  have hb1 := hcur cur hb
  simp only at hb1 k1 k2
  have hglt := hb.lt
  refine ⟨G1, d1, k1.le, k1.max, by show s1.cell? ⟨g, o + 6, none⟩ = _; rw [hb1.cell, set3_at cur o _ _ _ hcl, if_neg (by omega), if_pos rfl], ?_⟩
  refine st_list w t.b ihb s1 G1 d1 _ hI.body.2 k1 (fun k hk => by have := f1 k hk; omega) ?_
  intro s2 ms1 h2 k1' he1 hi1
  refine ⟨⟨by simp, fun h => by simp at h⟩, ?_⟩
  rintro s3 ⟨_, hs3⟩
  obtain rfl := hs3 (by simp)
  have hb2 := h2.blk hb1 (fun hm => by have := f1 g hm; omega)
  have k2' := KRow.onlyC h2 k2 (fun k hk hm => (f2 k hk).2 hm)
  refine ⟨G2, d2, k2'.le, k2'.max, by show s3.cell? ⟨g, o + 7, none⟩ = _; rw [hb2.cell, set3_at cur o _ _ _ hcl, if_pos rfl], ?_⟩
  refine st_list w t.l ihl s3 G2 d2 _ hI.els.2 k2' (fun k hk => by have := (f2 k hk).1; omega) ?_
  intro s4 ms2 h4 k2'' he2 hi2
  refine ⟨⟨by simp, fun h => by simp at h⟩, ?_⟩
  rintro s5 ⟨_, hs5⟩
  obtain rfl := hs5 (by simp)
  have hb4 := h4.blk hb2 (fun hm => by have := (f2 g hm).1; omega)
  have k1'' := KRow.onlyC h4 k1' (fun k hk hm => (f2 k hm).2 hk)
  have hl1 : ms1.length = t.b.length := by rw [← ers_len ms1, he1, strips_map, List.length_map]
  have hl2 : ms2.length = t.l.length := by rw [← ers_len ms2, he2, strips_map, List.length_map]
  have g2lt : ∀ b, b ∈ rowT G2 → b < s1.heap.size := fun b hb => KRow.lt k2 b hb
  refine hQ s5 (.mk t.k 0 t.s t.p t.h t.e G1 d1 ms1 G2 d2 ms2) _ ?_ hb4 ?_ ?_ ?_
  · refine (h1.join (h2.join h4 (S2 := fun x => x ∈ rowT G1 ∨ x ∈ rowT G2) (fun _ h => .inl h) (fun _ h => .inl (.inr h))) (fun _ h => h) ?_)
    rintro x (hx | hx)
    · exact .inr (f1 x hx)
    · exact .inr (f2 x hx).1
  · intro p
    rw [set3_at cur o _ _ _ hcl]
    by_cases hp : o ≤ p ∧ p < o + 8
    · rw [if_pos hp]
      obtain ⟨j, rfl⟩ : ∃ j, p = o + j := ⟨p - o, by omega⟩
      have hj : j < 8 := by omega
      rw [show o + j - o = j by omega]
      have c0 := hc 0 (.int .i64 t.k) rfl
      have c2 := hc 2 (.string t.s) rfl
      have c3 := hc 3 (.string t.p) rfl
      have c4 := hc 4 (.bool t.h) rfl
      have c5 := hc 5 (.bool t.e) rfl
      rcases (by omega : j = 0 ∨ j = 1 ∨ j = 2 ∨ j = 3 ∨ j = 4 ∨ j = 5 ∨ j = 6 ∨ j = 7) with rfl | rfl | rfl | rfl | rfl | rfl | rfl | rfl
      · rw [if_neg (by omega), if_neg (by omega), if_neg (by omega)]; exact c0
      · simp [NT.cs, NT.a]
      · rw [if_neg (by omega), if_neg (by omega), if_neg (by omega)]; exact c2
      · rw [if_neg (by omega), if_neg (by omega), if_neg (by omega)]; exact c3
      · rw [if_neg (by omega), if_neg (by omega), if_neg (by omega)]; exact c4
      · rw [if_neg (by omega), if_neg (by omega), if_neg (by omega)]; exact c5
      · simp [NT.cs, NT.A, NT.b, NT.c, hl1]
      · simp [NT.cs, NT.B, NT.l, NT.d, hl2]
    · rw [if_neg hp, if_neg (by omega), if_neg (by omega), if_neg (by omega)]
  · rw [strip_mk]
    simp only [er, he1, he2]
  · have hB := hI.body
    have hE := hI.els
    refine .mk _ hI.ki (by constructor <;> (simp only [NT.a]; omega)) ?_ ?_ ?_ ?_ ?_ ?_
    · cases hI; assumption
    · cases hI; assumption
    · exact krow_at k1'' f1 (by have := hB.1.1.2.2; show ms1.length * 104 ≤ _; rw [hl1]; exact this)
    · exact krow_at k2'' (fun k hk => (f2 k hk).1) (by have := hE.1.1.2.2; show ms2.length * 104 ≤ _; rw [hl2]; exact this)
    · intro x hx
      exact nw_mono h1.1 (nw_step h4 g2lt (hi1 x hx))
    · intro x hx
      exact nw_mono (Nat.le_trans h1.1 h2.1) (hi2 x hx)
theorem st_all (w : World) (r : List NT) : StL w r := st_list w r fun x _ => st_one w x
end Go.Proofs.Ythbcjljkpnkakaa

namespace Go.Proofs.Ythbcjljkpnkakaa
open Go.RowKit Go.BigFrame Go.Shelf NT
set_option linter.unusedVariables false
set_option linter.unusedSimpArgs false
attribute [local go_sem] Oper.semAt_some

/-- One of several that may come up: a call of a Go function that returns. -/
theorem op_call {P : Program} {ops : Array Oper} {Q : Exit → Act → World → Prop} {T : List Nat} {e : Nat} {listed : Array Bool} {fuel : Nat} {a : Act} {w : World} {o : Oper} {f : FuncId} {args : Array Value}
    (ho : ops[e]? = some o) (hw : Region.wanted o (yielded ops a.tmps) = true) (hrun : (execOp a.eval o).run P w = .ok (.enter f args) w)
    (hc : Calls P f args w fun x w1 => ∃ v, x = .returned v ∧ Only T w w1 ∧ wpAnyH P .any ops Q (Only T w1) fuel (listed.setIfInBounds e true) (a.put o.dst v) w1) :
    wpOp P ops Q e (fun a' w' => Only T w w' ∧ wpAnyH P .any ops Q (Only T w) fuel (listed.setIfInBounds e true) a' w') a w := by
  unfold wpOp
  simp only [ho, hw, if_true]
  refine .inl ?_
  unfold Oper.wp
  rw [hrun]
  simp only [Oper.upon]
  refine hc.mono ?_
  rintro x w1 ⟨v, rfl, hO, h⟩
  exact ⟨hO, wpAnyH_mono (fun w2 h2 => hO.trans h2) _ _ _ _ h⟩
/-! ### Clone -/
theorem src_node {w : World} {A : Option Addr} {c : Nat} {l : List NT} {Q : Nat → Prop} (h : Row w Q A c l) : Src w 8 NT.cs A l := fun hl => by
  obtain ⟨g, o, e, _, hc⟩ := h.1.2 hl
  refine ⟨_, e, fun j u hu => ?_⟩
  have hj := (List.getElem?_eq_some_iff.1 hu).1
  rw [flat_length (f := NT.cs) (z := 8) NT.cs_len] at hj
  obtain ⟨x, hx⟩ : ∃ x, l[j / 8]? = some x := ⟨_, List.getElem?_eq_getElem (by omega)⟩
  have h2 := flat_at (f := NT.cs) (z := 8) NT.cs_len hx (j := j % 8) (by omega)
  rw [show j / 8 * 8 + j % 8 = j by omega, hu] at h2
  have h3 := hc _ x hx (j % 8) u h2.symm
  rw [add_at, show o + j = o + j / 8 * 8 + j % 8 by omega]
  exact h3
def ClN (l : List NT) (w : World) (x : Ending) (w' : World) : Prop := ∃ (G : Option Addr) (d : Nat), x = .returned (.slice G l.length d) ∧ KRow w' 33 8 NT.cs G d l ∧ (∀ k, k ∈ rowT G → w.heap.size ≤ k) ∧ Bel w w'
theorem clN_none {l : List NT} {w : World} (hl : l = []) : ClN l w (.returned (.slice none 0 0)) w := by
  subst hl
  exact ⟨none, 0, rfl, KRow.nil _ _ _ _, by simp [rowT], Bel.refl _⟩
theorem clN_some {l : List NT} {w w2 : World} {A2 : Option Addr} {c2 n : Nat} {o : Obj} (hn : l.length = n) (hr : KRow w2 33 8 NT.cs A2 c2 (([] : List NT) ++ l)) (ho : Only (rowT (some ⟨w.heap.size, 0, none⟩)) (w.alloc o) w2)
    (hk : ∀ k, k ∈ rowT A2 → k ∈ rowT (some ⟨w.heap.size, 0, none⟩) ∨ k = (w.alloc o).heap.size) : ClN l w (.returned (.slice A2 n c2)) w2 := by
  subst hn
  refine ⟨A2, c2, rfl, hr, fun k hk' => ?_, bel_onS (Bel.alloc w o) ho (fun k hk' => by simp [rowT] at hk'; omega)⟩
  rcases hk k hk' with h | h
  · simp [rowT] at h; omega
  · simp at h; omega
set_option maxHeartbeats 400000 in
set_option maxRecDepth 100000 in
theorem cloneN_c {A : Option Addr} {c : Nat} {l : List NT} {w : World} (hA : Row w (Lt w) A c l) : Calls Try.prog 23 #[.slice A l.length c] w (ClN l w) := by
  have hs := src_node hA
  have hn : l.length * 104 ≤ 140737488351232 := hA.1.1.2.2
  clear hA
  cases A with
  | none =>
    have hl : l = [] := by
      cases l with
      | nil => rfl
      | cons x l => obtain ⟨_, h, _⟩ := hs (by simp); cases h
    obtain ⟨n, hN⟩ : ∃ n, n = l.length := ⟨_, rfl⟩
    have HD := Lib.hid (clN_none (w := w) hl)
    rw [← hN]
    clear hs hN hl hn
    have he : ∀ w : World, (binOp .eql 22 (.slice none n c) (.slice none 0 0)).run Try.prog w = .ok (.bool true) w := fun _ => rfl
    go_enter Try.func23, Try.ntmps23
    go_wp2_with fail
    go_ret
    exact HD.out
  | some g =>
    have HS := Lib.hid (show Src (w.alloc (.cells #[] 33)) 8 NT.cs (some g) l from fun hm => by
      obtain ⟨ad, e, hc⟩ := hs hm
      exact ⟨ad, e, fun j u hu => cell_alloc13 (hc j u hu) _⟩)
    have HR := Lib.hid (show KRow (w.alloc (.cells #[] 33)) 33 8 NT.cs (some ⟨w.heap.size, 0, none⟩) 0 ([] : List NT) from KRow.of_room (Blk.new w 33 []) 0 (by simp) (by simp))
    obtain ⟨n, hN⟩ : ∃ n, n = l.length := ⟨_, rfl⟩
    rw [← hN] at hn ⊢
    have HN := Lib.hid hN.symm
    have HM : Hid (0 + n ≤ maxLen ∧ (0 + n) * 104 ≤ 140737488355328) := Lib.hid (by unfold maxLen; omega)
    clear hs hN hn
    have he : ∀ w : World, (binOp .eql 22 (.slice (some g) n c) (.slice none 0 0)).run Try.prog w = .ok (.bool false) w := fun _ => rfl
    go_enter Try.func23, Try.ntmps23
    go_wp2_with (with_reducible refine wp_kAppend rfl (.tmp 5) (.tmp 6) 22 rfl 33 _ 8 104 NT.cs NT.cs_len NT.cs_one Try.underlying22 info_node cells_node (of_decide_eq_true rfl) (some ⟨w.heap.size, 0, none⟩) 0 ([] : List NT) 0 rfl rfl HR.out (some g) c l n HN.out rfl HS.out HM.out.1 HM.out.2 n (Nat.zero_add n).symm ?_; intro A2 c2 w2 HR2 hO2 HK2; have HO2 := Lib.hid hO2; clear hO2)
    go_ret
    exact clN_some HN.out HR2.out HO2.out HK2.out

/-! ### Strip -/
/-- The state is what the cells hold. -/
def StI (w : World) (s W : World) : Prop := Bel w W ∧ OnlyC (fun _ => False) s W
theorem stI_own {w : World} {B : Nat} (hB : w.heap.size ≤ B) : OwnFrom B (StI w) := by
  rintro s X Y row ⟨h1, h2⟩ hg hr
  exact ⟨ownFrom_below (β := Unit) (Nat.le_refl _) hB () X Y row h1 hg hr, Nat.le_trans h2.1 hg.size, fun k o hk ho hn => (grownBy_keeps_cells hg (fun r e => (hr r e).2) (h2.2 k o hk ho hn) ho).trans (h2.2 k o hk ho hn)⟩
theorem stI_cell {w s W : World} (h : StI w s W) {a : Addr} {v : Value} (hc : s.cell? a = some v) : W.cell? a = some v := by
  obtain ⟨o, ho, hcc⟩ := cells_of_cell hc
  rw [← hc]
  exact World.cell?_of_block ((h.2.2 _ o ho hcc (fun h => h)).trans ho.symm)
theorem StI.alloc {w s W : World} (h : StI w s W) (o : Obj) : StI w s (W.alloc o) := ⟨h.1.trans (Bel.alloc _ _), Nat.le_trans h.2.1 (by simp), fun k o' hk ho hn => (Below.heap_alloc _ _ _ (Array.getElem?_eq_some_iff.1 (h.2.2 k o' hk ho hn)).1).trans (h.2.2 k o' hk ho hn)⟩
/-- What a round has done to a node. -/
theorem strip_round {w s W V w2 w3 W4 W5 W6 : World} {t : NT} {g o : Nat} {cur : List Value} {G1 G2 : Option Addr} {d1 d2 nb nl B : Nat} {Ix : Code → World → Prop} {ac : Act} (hS : StI w s W) (hV : V = W.drew) (hg : w.heap.size ≤ g) (hb : Blk s g 33 cur)
    (hb1 : Bel V w2) (hk1 : KRow w2 33 8 NT.cs G1 d1 t.b) (hf1 : ∀ k, k ∈ rowT G1 → V.heap.size ≤ k) (hb2 : Bel w2 w3) (hk2 : KRow w3 33 8 NT.cs G2 d2 t.l) (hf2 : ∀ k, k ∈ rowT G2 → w2.heap.size ≤ k)
    (h4 : Only [g] w3 W4) (h5 : Only [g] W4 W5) (h6 : Only [g] W5 W6) (hnb : nb = t.b.length) (hnl : nl = t.l.length)
    (hX : Blk W6 g 33 (((cur.set (o + 1) (.int .i64 0)).set (o + 6) (.slice G1 nb d1)).set (o + 7) (.slice G2 nl d2))) :
    stPost B (StI w) Ix (stNx s ⟨g, o, t, 0⟩) W .normal ac W6 := by
  subst hnb hnl hV
  have hO : Only [g] W W6 := ((((bel_only ((Bel.drew W).trans hb1)).trans (bel_only hb2)).more (by simp)).trans (h4.trans (h5.trans h6)))
  have hWg : Blk W g 33 cur := hS.2.blk hb (fun h => h)
  have hgs := hb.lt
  have hs := hS.2.1
  have hv : W.heap.size ≤ w2.heap.size := ((Bel.drew W).trans hb1).size
  have h1s : ∀ k, k ∈ rowT G1 → W.heap.size ≤ k := fun k hk => hf1 k hk
  have hbw : Bel w W6 := bel_onS hS.1 hO (by simpa using hg)
  have h46 : Only [g] w3 W6 := h4.trans (h5.trans h6)
  refine ⟨keeps_of_only hO (fun k hk => ?_), W6, ⟨fun _ => ⟨⟨Nat.le_trans hs hO.size, fun k o' hk ho hn => ?_⟩, G1, d1, G2, d2, ?_, ?_, ?_, ?_, ?_⟩, fun h => absurd rfl h⟩, hbw, OnlyC.refl _ _⟩
  · obtain rfl : k = g := by simpa using hk
    exact ⟨_, _, _, hWg⟩
  · have h1 := hS.2.2 k o' hk ho (fun h => h)
    exact (hO.block k (Array.getElem?_eq_some_iff.1 h1).1 (by simpa using hn)).trans h1
  · exact KRow.only (KRow.only hk1 (bel_only hb2) (by simp)) h46 (fun k hk => by have := h1s k hk; simp; omega)
  · exact KRow.only hk2 h46 (fun k hk => by have := hf2 k hk; simp; omega)
  · intro k hk
    exact Nat.le_trans hs (h1s k hk)
  · intro k hk
    have h1 := hf2 k hk
    exact ⟨by omega, fun h => by have := KRow.lt hk1 k h; omega⟩
  · intro cur' hc'
    have : cur' = cur := by
      unfold Blk at hb hc'
      rw [hb] at hc'
      injection hc' with hc'
      injection hc' with hc'
      have := congrArg Array.toList hc'
      simpa using this.symm
    subst this
    exact hX
set_option maxRecDepth 100000 in
set_option maxHeartbeats 3200000 in
theorem pstrip0_c {l : List NT} {A : Option Addr} {c : Nat} {w : World} (hA : Row w (Lt w) A c l) :
    Calls Try.prog 11 #[.slice A l.length c] w fun e w' => Bel w w' ∧ ∃ B d m, e = .returned (.slice B m.length d) ∧ KRow w' 33 8 NT.cs B d m ∧ (∀ b, b ∈ rowT B → w.heap.size ≤ b) ∧ (∃ W0 : World, w.heap.size ≤ W0.heap.size ∧ (∀ b, b ∈ rowT B → b < W0.heap.size) ∧ ∀ x, x ∈ m → x.In w' (Nw W0 w')) ∧ ers m = strips l := by
  have HCL0 := Lib.hid (cloneN_c hA)
  have HIN := Lib.hid hA.2
  obtain ⟨n, hn⟩ : ∃ n, n = l.length := ⟨_, rfl⟩
  have HNN := Lib.hid hn
  rw [← hn] at HCL0 ⊢
  clear hA hn
  refine (callsIn_wide (n := 6)).1 (callsIn_of_wp_marks Try.func11 rfl trivial ?_ rfl)
  simp only [Try.ntmps11, List.size_toArray, List.length_cons, List.length_nil, Nat.reduceAdd, Nat.reduceSub, Array.replicate_succ, Array.replicate_zero, List.push_toArray, List.append_toArray, List.nil_append, List.cons_append]
  refine wpIn_wide.2 ?_
  go_wp2_with (first | (go_at_call 23; ((with_reducible refine HCL0.out.mono ?_); rintro e w1 ⟨G, dg, rfl, hk, hf, hb⟩; have HK := Lib.hid hk; have HF := Lib.hid hf; have HB := Lib.hid hb; clear hk hf hb; rw [← HNN.out])) | (go_at_call 16; ((with_reducible refine (visits_c G n dg _).mono ?_); rintro e w2 ⟨rfl, rfl⟩)))
  obtain ⟨bx, hbx⟩ : ∃ bx, bx = w1.heap.size := ⟨_, rfl⟩
  have HBX : Hid ((w1.alloc (.cells #[.slice G n dg] 22)).cell? ⟨bx, 0, none⟩ = some (.slice G n dg)) := Lib.hid (by rw [hbx]; exact (Blk.new w1 22 [.slice G n dg]).cell 0)
  have HBW : Hid (Bel w (w1.alloc (.cells #[.slice G n dg] 22))) := Lib.hid (HB.out.trans (Bel.alloc _ _))
  have HKW := Lib.hid (HK.out.alloc (.cells #[.slice G n dg] 22))
  rw [← hbx]
  generalize w1.alloc (.cells #[.slice G n dg] 22) = W0 at HBX HBW HKW ⊢
  clear hbx HB HK HCL0
  have hW0 : w.heap.size ≤ W0.heap.size := HBW.out.size
  have HRUN := Lib.hid (st_all w l W0 G dg (fun s' => ∃ ms, OnlyC (· ∈ rowT G) W0 s' ∧ KRow s' 33 8 NT.cs G dg ms ∧ ers ms = strips l ∧ ∀ x, x ∈ ms → x.In s' (Nw W0 s')) HIN.out HKW.out HF.out (fun s' ms h1 h2 h3 h4 => ⟨ms, h1, h2, h3, h4⟩))
  refine (wpIn_wide (n := 6)).1 ?_
  refine rangeFunc_st (n := 6) rfl (by omega) (gf := 28) (lb := #[.pointer (some ⟨bx, 0, none⟩)]) rfl trivial (enters_of Try.func28 (by kernel_rfl) rfl)
    (visits_iterates (Rd := stRd) (I := StI w) (c := dg) HKW.out.le HKW.out.max (fun s W h g o v hr => stI_cell h hr) (fun W h => by rw [← HNN.out]; exact stI_cell h HBX.out) HRUN.out) (fun _ => rfl) (fun _ _ => False) (stI_own hW0) (fun _ _ _ _ _ h _ _ => h.elim)
    ⟨HBW.out, OnlyC.refl _ _⟩
    (fun s x a' W => StI w s W ∧ stPre w s x ∧ ∃ bv u10, Blk W bv 46 x.cs ∧ a' = { tmps := #[.slice A n c, undef, .slice none 0 0, .slice G n dg, .pointer (some ⟨bv, 0, none⟩), undef, .slice A n c, .slice G n dg, .slice G n dg, .func (.func 28) #[] #[.pointer (some ⟨bx, 0, none⟩)], u10, undef, undef, undef, undef, undef, undef, undef, undef, undef, undef, undef, undef, undef, undef, undef, undef, undef, undef, undef, undef, undef, undef, undef, undef, undef], defers := [] })
    (fun s x a' => by
      rintro u X Y row ⟨h1, h2, bv, u10, h3, h4⟩ hg hr
      exact ⟨stI_own hW0 s X Y row h1 hg hr, h2, bv, u10, blk_own () X Y row h3 hg hr, h4⟩) ?assign ?body ?done ?stop
  case assign =>
    intro l x s W K hsz hI hpre hK
    have HK := Lib.hid hK
    have HI := Lib.hid hI
    have HP := Lib.hid hpre
    clear hK hI hpre
    simp only [vEnc, Vis.val]
    gi_wp2_with fail
    exact HK.out _ _ ((KeepsOthers.alloc _ _).from _) ⟨HI.out.alloc _, HP.out, W.heap.size, _, Blk.new W 46 _, rfl⟩
  case body =>
    rintro l s x a' W ⟨hI, ⟨hq2, hp⟩, bv, u10, hbv, rfl⟩
    obtain ⟨g, o, t, q⟩ := x
    simp only at hq2 hp
    have HS := Lib.hid hI
    rcases (by omega : q = 0 ∨ q = 1 ∨ q = 2) with rfl | rfl | rfl
    · obtain ⟨hti, hg, cur, hb, hc⟩ := hp rfl
      have b0 : W.cell? ⟨bv, 0, none⟩ = some (.pointer (some ⟨g, o, none⟩)) := Blk.cell (show Blk W bv 46 [.pointer (some ⟨g, o, none⟩), .int .i64 0] from hbv) 0
      have b1 : W.cell? ⟨bv, 1, none⟩ = some (.int .i64 0) := Blk.cell (show Blk W bv 46 [.pointer (some ⟨g, o, none⟩), .int .i64 0] from hbv) 1
      obtain ⟨nb, hnb⟩ : ∃ nb, nb = t.b.length := ⟨_, rfl⟩
      obtain ⟨nl, hnl⟩ : ∃ nl, nl = t.l.length := ⟨_, rfl⟩
      have hcb := fun (X : World) (hx : Bel w X) => cloneN_c (hti.body.bel hx)
      have hcl := fun (X : World) (hx : Bel w X) => cloneN_c (hti.els.bel hx)
      rw [← hnb] at hcb
      rw [← hnl] at hcl
      have HC : Hid (cur[o + 1]? = some (.int .i64 t.a) ∧ cur[o + 6]? = some (.slice t.A nb t.c) ∧ cur[o + 7]? = some (.slice t.B nl t.d)) := Lib.hid ⟨hc 1 _ rfl, by rw [hnb]; exact hc 6 _ rfl, by rw [hnl]; exact hc 7 _ rfl⟩
      have HNB := Lib.hid hnb
      have HNL := Lib.hid hnl
      have HG := Lib.hid hg
      have HBS := Lib.hid hb
      have HCB0 := Lib.hid hcb
      have HCL0 := Lib.hid hcl
      clear hp hnb hnl hg hb hc hti hcb hcl hq2 hbv hI
      gi_wp2_with fail
      refine region_begin_round (T := [g]) (by kernel_rfl) (by kernel_rfl) (fun ⟨_, _, h⟩ => h) ?_
      obtain ⟨V, hV⟩ : ∃ V, V = W.drew := ⟨_, rfl⟩
      have HBV : Hid (Blk V g 33 cur) := Lib.hid (by rw [hV]; exact (HS.out.2.blk HBS.out (fun h => h)).drew)
      have HCB : Hid (∀ X, Bel V X → Calls Try.prog 23 #[.slice t.A nb t.c] X (ClN t.b X)) := Lib.hid (fun X hx => HCB0.out X (HS.out.1.trans ((Bel.drew W).trans (by rw [← hV]; exact hx))))
      have HCL : Hid (∀ X, Bel V X → Calls Try.prog 23 #[.slice t.B nl t.d] X (ClN t.l X)) := Lib.hid (fun X hx => HCL0.out X (HS.out.1.trans ((Bel.drew W).trans (by rw [← hV]; exact hx))))
      have HW0 := Lib.hid hV
      rw [← hV]
      clear hV HCB0 HCL0
      have p6 : V.cell? ⟨g, o + 6, none⟩ = some (.slice t.A nb t.c) := (HBV.out.cell _).trans HC.out.2.1
      have p7 : V.cell? ⟨g, o + 7, none⟩ = some (.slice t.B nl t.d) := (HBV.out.cell _).trans HC.out.2.2
      refine region_seg [true, true, true, true, true, true, false, false, true, true, true] 13 (by kernel_rfl) (by kernel_rfl) (by kernel_rfl) rfl (fun _ _ d _ _ h => by cases d <;> exact h) ?_
      (refine wpMask_want (by rfl) (fun K hK => ?_); go_big_quiet_op; refine hK _ ?_; clear hK K)
      (refine wpMask_want (by rfl) (fun K hK => ?_); go_big_quiet_op; refine hK _ ?_; clear hK K)
      (refine wpMask_want (by rfl) (fun K hK => ?_); go_big_quiet_op; refine hK _ ?_; clear hK K)
      (refine wpMask_want (by rfl) (fun K hK => ?_); go_big_quiet_op; refine hK _ ?_; clear hK K)
      (refine wpMask_want (by rfl) (fun K hK => ?_); go_big_quiet_op; refine hK _ ?_; clear hK K)
      (refine wpMask_want (by rfl) (fun K hK => ?_); go_big_quiet_op; refine hK _ ?_; clear hK K)
      with_reducible refine wpMask_pass ?_
      with_reducible refine wpMask_pass ?_
      (refine wpMask_want (by rfl) (fun K hK => ?_); go_big_quiet_op; refine hK _ ?_; clear hK K)
      (refine wpMask_want (by rfl) (fun K hK => ?_); go_big_quiet_op; refine hK _ ?_; clear hK K)
      (refine wpMask_want (by rfl) (fun K hK => ?_); go_big_quiet_op; refine hK _ ?_; clear hK K)
      with_reducible refine wpMask_nil ?_
      refine wpAnyH_all (rs := [6, 11]) (by kernel_rfl) (by simp) (fun i hi => ?_)
      simp only [List.mem_cons, List.not_mem_nil, or_false] at hi
      rcases hi with rfl | rfl
      case' inl =>
        refine op_make (v := .slice t.A nb t.c) (w1 := V) rfl (by rfl) (by go_simp) (Only.refl _ _) ?_
        simp only [List.getElem_toArray, List.getElem_cons_zero, List.getElem_cons_succ, Act.put, List.setIfInBounds_toArray, List.set_cons_zero, List.set_cons_succ]
        refine wpAnyH_all (rs := [7, 11]) (by kernel_rfl) (by simp) (fun i hi => ?_)
        simp only [List.mem_cons, List.not_mem_nil, or_false] at hi
        rcases hi with rfl | rfl
        case' inl =>
          refine op_call rfl (by rfl) (by go_simp; exact ⟨rfl, rfl⟩) ?_
          refine (HCB.out V (Bel.refl _)).mono ?_
          rintro e w2 ⟨G1, d1, rfl, hk1, hf1, hb1⟩
          refine ⟨_, rfl, (bel_only hb1).more (by simp), ?_⟩
          simp only [List.getElem_toArray, List.getElem_cons_zero, List.getElem_cons_succ, Act.put, List.setIfInBounds_toArray, List.set_cons_zero, List.set_cons_succ]
          rw [← HNB.out]
          have q7 : w2.cell? ⟨g, o + 7, none⟩ = some (.slice t.B nl t.d) := ((HBV.out.bel hb1).cell (o + 7)).trans HC.out.2.2
          refine region_make 11 (v := .slice t.B nl t.d) (w1 := w2) (by kernel_rfl) rfl (by rfl) (by go_simp) (Only.refl _ _) ?_
          simp only [List.getElem_toArray, List.getElem_cons_zero, List.getElem_cons_succ, Act.put, List.setIfInBounds_toArray, List.set_cons_zero, List.set_cons_succ]
          clear q7
        case' inr =>
          refine op_make (v := .slice t.B nl t.d) (w1 := V) rfl (by rfl) (by go_simp) (Only.refl _ _) ?_
          simp only [List.getElem_toArray, List.getElem_cons_zero, List.getElem_cons_succ, Act.put, List.setIfInBounds_toArray, List.set_cons_zero, List.set_cons_succ]
          refine region_call 7 (by kernel_rfl) rfl (by rfl) (by go_simp; exact ⟨rfl, rfl⟩) ?_
          refine (HCB.out V (Bel.refl _)).mono ?_
          rintro e w2 ⟨G1, d1, rfl, hk1, hf1, hb1⟩
          refine ⟨_, rfl, (bel_only hb1).more (by simp), ?_⟩
          simp only [List.getElem_toArray, List.getElem_cons_zero, List.getElem_cons_succ, Act.put, List.setIfInBounds_toArray, List.set_cons_zero, List.set_cons_succ]
          rw [← HNB.out]
      case' inr =>
        refine op_make (v := .slice t.B nl t.d) (w1 := V) rfl (by rfl) (by go_simp) (Only.refl _ _) ?_
        simp only [List.getElem_toArray, List.getElem_cons_zero, List.getElem_cons_succ, Act.put, List.setIfInBounds_toArray, List.set_cons_zero, List.set_cons_succ]
        refine region_make 6 (v := .slice t.A nb t.c) (w1 := V) (by kernel_rfl) rfl (by rfl) (by go_simp) (Only.refl _ _) ?_
        simp only [List.getElem_toArray, List.getElem_cons_zero, List.getElem_cons_succ, Act.put, List.setIfInBounds_toArray, List.set_cons_zero, List.set_cons_succ]
        refine region_call 7 (by kernel_rfl) rfl (by rfl) (by go_simp; exact ⟨rfl, rfl⟩) ?_
        refine (HCB.out V (Bel.refl _)).mono ?_
        rintro e w2 ⟨G1, d1, rfl, hk1, hf1, hb1⟩
        refine ⟨_, rfl, (bel_only hb1).more (by simp), ?_⟩
        simp only [List.getElem_toArray, List.getElem_cons_zero, List.getElem_cons_succ, Act.put, List.setIfInBounds_toArray, List.set_cons_zero, List.set_cons_succ]
        rw [← HNB.out]
      all_goals
        have HB1 := Lib.hid hb1
        have HK1 := Lib.hid hk1
        have HF1 := Lib.hid hf1
        clear hb1 hk1 hf1 p6 p7
        refine region_call 12 (by kernel_rfl) rfl (by rfl) (by go_simp; exact ⟨rfl, rfl⟩) ?_
        refine (HCL.out w2 HB1.out).mono ?_
        rintro e w3 ⟨G2, d2, rfl, hk2, hf2, hb2⟩
        refine ⟨_, rfl, (bel_only hb2).more (by simp), ?_⟩
        simp only [List.getElem_toArray, List.getElem_cons_zero, List.getElem_cons_succ, Act.put, List.setIfInBounds_toArray, List.set_cons_zero, List.set_cons_succ]
        rw [← HNL.out]
        have HB2 := Lib.hid hb2
        have HK2 := Lib.hid hk2
        have HF2 := Lib.hid hf2
        clear hb2 hk2 hf2
        have HX3 := Lib.hid ((HBV.out.bel HB1.out).bel HB2.out)
        refine region_seg [false, false, false, false, false, false, false, false, false, false, false, false, false, true, true] 7 (by kernel_rfl) (by kernel_rfl) (by kernel_rfl) rfl (fun _ _ d _ _ h => by cases d <;> exact h) ?_
        with_reducible refine wpMask_pass ?_
        with_reducible refine wpMask_pass ?_
        with_reducible refine wpMask_pass ?_
        with_reducible refine wpMask_pass ?_
        with_reducible refine wpMask_pass ?_
        with_reducible refine wpMask_pass ?_
        with_reducible refine wpMask_pass ?_
        with_reducible refine wpMask_pass ?_
        with_reducible refine wpMask_pass ?_
        with_reducible refine wpMask_pass ?_
        with_reducible refine wpMask_pass ?_
        with_reducible refine wpMask_pass ?_
        with_reducible refine wpMask_pass ?_
        (refine wpMask_want (by rfl) (fun K hK => ?_); go_big_quiet_op; refine hK _ ?_; clear hK K)
        (refine wpMask_want (by rfl) (fun K hK => ?_); go_big_quiet_op; refine hK _ ?_; clear hK K)
        with_reducible refine wpMask_nil ?_
        have z1 : w3.cell? ⟨g, o + 1, none⟩ = some (.int .i64 t.a) := ((HX3.out.cell _).trans HC.out.1)
        have f1 : w3.frozen? ⟨g, o + 1, none⟩ = false := HX3.out.free _
        refine region_store (w1 := w3.setCell ⟨g, o + 1, none⟩ (.int .i64 0)) 15 (by kernel_rfl) rfl (by rfl) (by go_simp) ((Only.refl _ _).setCell (.inl (by simp)) _) ?_
        simp only [List.getElem_toArray, List.getElem_cons_zero, List.getElem_cons_succ, Act.put, List.setIfInBounds_toArray, List.set_cons_zero, List.set_cons_succ]
        have HX4 := Lib.hid (HX3.out.set_ (o + 1) (.int .i64 0))
        have HO4 := Lib.hid (show Only [g] w3 (w3.setCell ⟨g, o + 1, none⟩ (.int .i64 0)) from (Only.refl _ _).setCell (.inl (by simp)) _)
        clear z1 f1
        generalize w3.setCell ⟨g, o + 1, none⟩ (.int .i64 0) = W4 at HX4 HO4 ⊢
        refine region_seg [false, false, false, false, false, false, false, false, false, false, false, false, false, false, false, false, true, true] 4 (by kernel_rfl) (by kernel_rfl) (by kernel_rfl) rfl (fun _ _ d _ _ h => by cases d <;> exact h) ?_
        with_reducible refine wpMask_pass ?_
        with_reducible refine wpMask_pass ?_
        with_reducible refine wpMask_pass ?_
        with_reducible refine wpMask_pass ?_
        with_reducible refine wpMask_pass ?_
        with_reducible refine wpMask_pass ?_
        with_reducible refine wpMask_pass ?_
        with_reducible refine wpMask_pass ?_
        with_reducible refine wpMask_pass ?_
        with_reducible refine wpMask_pass ?_
        with_reducible refine wpMask_pass ?_
        with_reducible refine wpMask_pass ?_
        with_reducible refine wpMask_pass ?_
        with_reducible refine wpMask_pass ?_
        with_reducible refine wpMask_pass ?_
        with_reducible refine wpMask_pass ?_
        (refine wpMask_want (by rfl) (fun K hK => ?_); go_big_quiet_op; refine hK _ ?_; clear hK K)
        (refine wpMask_want (by rfl) (fun K hK => ?_); go_big_quiet_op; refine hK _ ?_; clear hK K)
        with_reducible refine wpMask_nil ?_
        have z6 : W4.cell? ⟨g, o + 6, none⟩ = some (.slice t.A nb t.c) := (by rw [HX4.out.cell, List.getElem?_set_ne (by omega)]; exact HC.out.2.1)
        have f6 : W4.frozen? ⟨g, o + 6, none⟩ = false := HX4.out.free _
        refine region_store (w1 := W4.setCell ⟨g, o + 6, none⟩ (.slice G1 nb d1)) 18 (by kernel_rfl) rfl (by rfl) (by go_simp) ((Only.refl _ _).setCell (.inl (by simp)) _) ?_
        simp only [List.getElem_toArray, List.getElem_cons_zero, List.getElem_cons_succ, Act.put, List.setIfInBounds_toArray, List.set_cons_zero, List.set_cons_succ]
        have HX5 := Lib.hid (HX4.out.set_ (o + 6) (.slice G1 nb d1))
        have HO5 := Lib.hid (show Only [g] W4 (W4.setCell ⟨g, o + 6, none⟩ (.slice G1 nb d1)) from (Only.refl _ _).setCell (.inl (by simp)) _)
        clear z6 f6
        generalize W4.setCell ⟨g, o + 6, none⟩ (.slice G1 nb d1) = W5 at HX5 HO5 ⊢
        refine region_seg [false, false, false, false, false, false, false, false, false, false, false, false, false, false, false, false, false, false, false, true, true] 1 (by kernel_rfl) (by kernel_rfl) (by kernel_rfl) rfl (fun _ _ d _ _ h => by cases d <;> exact h) ?_
        with_reducible refine wpMask_pass ?_
        with_reducible refine wpMask_pass ?_
        with_reducible refine wpMask_pass ?_
        with_reducible refine wpMask_pass ?_
        with_reducible refine wpMask_pass ?_
        with_reducible refine wpMask_pass ?_
        with_reducible refine wpMask_pass ?_
        with_reducible refine wpMask_pass ?_
        with_reducible refine wpMask_pass ?_
        with_reducible refine wpMask_pass ?_
        with_reducible refine wpMask_pass ?_
        with_reducible refine wpMask_pass ?_
        with_reducible refine wpMask_pass ?_
        with_reducible refine wpMask_pass ?_
        with_reducible refine wpMask_pass ?_
        with_reducible refine wpMask_pass ?_
        with_reducible refine wpMask_pass ?_
        with_reducible refine wpMask_pass ?_
        with_reducible refine wpMask_pass ?_
        (refine wpMask_want (by rfl) (fun K hK => ?_); go_big_quiet_op; refine hK _ ?_; clear hK K)
        (refine wpMask_want (by rfl) (fun K hK => ?_); go_big_quiet_op; refine hK _ ?_; clear hK K)
        with_reducible refine wpMask_nil ?_
        have z7 : W5.cell? ⟨g, o + 7, none⟩ = some (.slice t.B nl t.d) := (by rw [HX5.out.cell, List.getElem?_set_ne (by omega), List.getElem?_set_ne (by omega)]; exact HC.out.2.2)
        have f7 : W5.frozen? ⟨g, o + 7, none⟩ = false := HX5.out.free _
        refine region_store (w1 := W5.setCell ⟨g, o + 7, none⟩ (.slice G2 nl d2)) 21 (by kernel_rfl) rfl (by rfl) (by go_simp) ((Only.refl _ _).setCell (.inl (by simp)) _) ?_
        simp only [List.getElem_toArray, List.getElem_cons_zero, List.getElem_cons_succ, Act.put, List.setIfInBounds_toArray, List.set_cons_zero, List.set_cons_succ]
        have HX6 := Lib.hid (HX5.out.set_ (o + 7) (.slice G2 nl d2))
        have HO6 := Lib.hid (show Only [g] W5 (W5.setCell ⟨g, o + 7, none⟩ (.slice G2 nl d2)) from (Only.refl _ _).setCell (.inl (by simp)) _)
        clear z7 f7
        generalize W5.setCell ⟨g, o + 7, none⟩ (.slice G2 nl d2) = W6 at HX6 HO6 ⊢
        refine region_end (by kernel_rfl) ?_
        exact strip_round (Ix := fun _ _ => False) (ac := { tmps := #[], defers := [] }) HS.out HW0.out HG.out HBS.out HB1.out HK1.out HF1.out HB2.out HK2.out HF2.out HO4.out HO5.out HO6.out HNB.out HNL.out HX6.out
    · have b0 : W.cell? ⟨bv, 0, none⟩ = some (.pointer (some ⟨g, o, none⟩)) := Blk.cell (show Blk W bv 46 [.pointer (some ⟨g, o, none⟩), .int .i64 1] from hbv) 0
      have b1 : W.cell? ⟨bv, 1, none⟩ = some (.int .i64 1) := Blk.cell (show Blk W bv 46 [.pointer (some ⟨g, o, none⟩), .int .i64 1] from hbv) 1
      clear hp hq2 hbv hI
      gi_wp2_with fail
      exact ⟨KeepsFrom.refl _ _, s, ⟨fun h => by simp at h, fun _ => rfl⟩, HS.out⟩
    · have b0 : W.cell? ⟨bv, 0, none⟩ = some (.pointer (some ⟨g, o, none⟩)) := Blk.cell (show Blk W bv 46 [.pointer (some ⟨g, o, none⟩), .int .i64 2] from hbv) 0
      have b1 : W.cell? ⟨bv, 1, none⟩ = some (.int .i64 2) := Blk.cell (show Blk W bv 46 [.pointer (some ⟨g, o, none⟩), .int .i64 2] from hbv) 1
      clear hp hq2 hbv hI
      gi_wp2_with fail
      exact ⟨KeepsFrom.refl _ _, s, ⟨fun h => by simp at h, fun _ => rfl⟩, HS.out⟩
  case done =>
    rintro D s W hD ⟨ms, h1, h2, h3, h4⟩ hI hK
    have HF1 := Lib.hid h1
    have HF2 := Lib.hid h2
    have HF3 := Lib.hid h3
    have HF4 := Lib.hid h4
    have HI := Lib.hid hI
    have HKD := Lib.hid hK
    have hDD : w.heap.size ≤ D := Nat.le_trans hW0 hD
    clear h1 h2 h3 h4 hI hK hD
    go_wp2_with fail
    refine ⟨by simp, .inl ⟨_, _, rfl, run_takeDeferred HKD.out, ?_⟩⟩
    have hOD : OnlyC (fun _ => False) s (W.putObj D (.deferred none)) := ⟨by rw [World.putObj_size]; exact HI.out.2.1, fun k o hk ho hn => by
      have h1 := HI.out.2.2 k o hk ho hn
      exact (World.putObj_heap_other (fun e => by subst e; rw [HKD.out] at h1; cases h1; cases ho)).trans h1⟩
    have hml : ms.length = l.length := by rw [← ers_len ms, HF3.out, strips_map, List.length_map]
    refine ⟨_, results_tmp rfl _ _ _, bel_put HI.out.1 HKD.out hDD, G, dg, ms, ?_, KRow.onlyC hOD HF2.out (fun _ _ h => h), HF.out, ⟨W0, hW0, fun b hb => KRow.lt HKW.out b hb, fun x hx => nw_step hOD (fun _ h => h.elim) (HF4.out x hx)⟩, HF3.out⟩
    rw [hml, ← HNN.out]
    rfl
  case stop =>
    rintro D c' W _ h _
    exact h.elim
end Go.Proofs.Ythbcjljkpnkakaa

namespace Go.Proofs.Ythbcjljkpnkakaa
open Go.RowKit Go.BigFrame NT
set_option linter.unusedVariables false
/-- Blocks that Strip has made, besides the row's own. -/
def SQ (w w' : World) (B : Option Addr) : Nat → Prop := fun b => w.heap.size ≤ b ∧ b < w'.heap.size ∧ b ∉ rowT B ∧ ∀ p, w'.frozen? ⟨b, p, none⟩ = false
theorem pstripO_c {l : List NT} {A : Option Addr} {c : Nat} {w : World} (hA : Row w (Lt w) A c l) (hs : tots l ≤ 100000) :
    Calls Try.prog 11 #[.slice A l.length c] w fun e w' => Bel w w' ∧ ∃ B d m, e = .returned (.slice B m.length d) ∧ KRow w' 33 8 NT.cs B d m ∧ (∀ b, b ∈ rowT B → w.heap.size ≤ b) ∧ (∀ x, x ∈ m → x.In w' (SQ w w' B)) ∧ ers m = strips l := by
  refine (pstrip0_c hA).mono ?_
  rintro e w' ⟨hb, B, d, m, rfl, hK, hf, ⟨W0, h1, h2, h3⟩, he⟩
  refine ⟨hb, B, d, m, rfl, hK, hf, fun x hx => (h3 x hx).same (fun b hb => ?_) (fun _ _ _ => rfl), he⟩
  obtain ⟨h4, T, cs, h5⟩ := hb
  exact ⟨by omega, h5.lt, fun h => by have := h2 b h; omega, fun p => h5.free p⟩
theorem tots_len : ∀ l : List NT, l.length ≤ tots l
  | [] => Nat.zero_le _
  | x :: l => by rw [tots_cons, tot_eq, List.length_cons]; have := tots_len l; omega
/-- Strip's row, as any row of its own. -/
theorem strip_row {w w' : World} {l m : List NT} {B : Option Addr} {d : Nat} (hs : tots l ≤ 100000) (hK : KRow w' 33 8 NT.cs B d m) (hf : ∀ b, b ∈ rowT B → w.heap.size ≤ b) (hI : ∀ x, x ∈ m → x.In w' (SQ w w' B)) (he : ers m = strips l) : Row w' (Fr w w') B d m := by
  have hl : m.length = l.length := by rw [← ers_len m, he, strips_map, List.length_map]
  have h2 := tots_len l
  refine ⟨⟨⟨hK.le, hK.max, by unfold reachBytes; omega⟩, fun h0 => ?_⟩, fun x hx => (hI x hx).same (fun b hb => ⟨hb.1, hb.2.1⟩) (fun _ _ _ => rfl)⟩
  obtain ⟨g, o, hA0, hg, _⟩ := hK.at_ NT.cs_len (List.getElem?_eq_getElem h0) (by decide)
  refine ⟨g, o, hA0, ⟨hf g (by rw [hA0]; simp [rowT]), hg⟩, fun i x hi => ?_⟩
  obtain ⟨g', o', hA1, hg', hc⟩ := hK.at_ NT.cs_len hi (by decide)
  rw [hA0] at hA1
  injection hA1 with hA1
  injection hA1 with e1 e2
  subst e1 e2
  exact hc
theorem pstrip_c {l : List NT} {A : Option Addr} {c : Nat} {w : World} (hA : Row w (Lt w) A c l) (hs : tots l ≤ 100000) :
    Calls Try.prog 11 #[.slice A l.length c] w fun e w' => Bel w w' ∧ ∃ B d m, e = .returned (.slice B m.length d) ∧ Row w' (Fr w w') B d m ∧ ers m = strips l := by
  refine (pstripO_c hA hs).mono ?_
  rintro e w' ⟨hb, B, d, m, rfl, hK, hf, hI, he⟩
  exact ⟨hb, B, d, m, rfl, strip_row hs hK hf hI he, he⟩
end Go.Proofs.Ythbcjljkpnkakaa
