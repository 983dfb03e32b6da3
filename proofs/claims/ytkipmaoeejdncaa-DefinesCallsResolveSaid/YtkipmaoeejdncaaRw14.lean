/-
  What is collected while definitions are visited, all bodies of one name together: as plain data, whatever the order of the walk. No program is imported here.
-/
import Derived.Test.YtkipmaoeejdncaaEr14
namespace Go.Proofs.Ytkipmaoeejdncaa
open NT
set_option linter.unusedVariables false
set_option linter.unusedSimpArgs false

/-- From F on, the calls cs visited: F' has come. N are the names that count, bd what is visited for a name. -/
structure Wst (N : List ByteArray) (bd : ByteArray → List NT) (F : List ByteArray) (cs : List NT) (F' : List ByteArray) : Prop where
  ext : ∃ G, F' = F ++ G
  nodup : F.Nodup → F'.Nodup
  names : (∀ n, n ∈ F → n ∈ N) → ∀ n, n ∈ F' → n ∈ N
  met : ∀ c, c ∈ cs → c.s ∈ N → c.s ∈ F'
  shut : ∀ x, x ∈ F' → x ∉ F → ∀ c, c ∈ callNs (bd x) → c.s ∈ N → c.s ∈ F'
  sound : ∀ Q : ByteArray → Prop, (∀ x, Q x → ∀ c, c ∈ callNs (bd x) → c.s ∈ N → Q c.s) → (∀ c, c ∈ cs → c.s ∈ N → Q c.s) → ∀ x, x ∈ F' → x ∉ F → Q x
theorem Wst.sub {N : List ByteArray} {bd : ByteArray → List NT} {F F' : List ByteArray} {cs : List NT} (h : Wst N bd F cs F') {x : ByteArray} (hx : x ∈ F) : x ∈ F' := by
  obtain ⟨G, rfl⟩ := h.ext
  exact List.mem_append.2 (.inl hx)
theorem Wst.nil (N : List ByteArray) (bd : ByteArray → List NT) (F : List ByteArray) : Wst N bd F [] F :=
  ⟨⟨[], by simp⟩, id, id, fun c h => (by cases h), fun x h1 h2 => absurd h1 h2, fun Q _ _ x h1 h2 => absurd h1 h2⟩
/-- Calls of the same names. -/
theorem Wst.same {N : List ByteArray} {bd : ByteArray → List NT} {F F' : List ByteArray} {cs cs' : List NT} (h : Wst N bd F cs F') (e : cs'.map NT.s = cs.map NT.s) : Wst N bd F cs' F' := by
  have key : ∀ (p q : List NT), p.map NT.s = q.map NT.s → ∀ c, c ∈ p → ∃ c', c' ∈ q ∧ c'.s = c.s := fun p q e c hc => by
    have h1 : c.s ∈ q.map NT.s := by rw [← e]; exact List.mem_map.2 ⟨c, hc, rfl⟩
    exact List.mem_map.1 h1
  refine ⟨h.ext, h.nodup, h.names, fun c hc hn => ?_, h.shut, fun Q hq hcs => h.sound Q hq fun c hc hn => ?_⟩
  · obtain ⟨c', h1, h2⟩ := key _ _ e c hc
    rw [← h2] at hn ⊢
    exact h.met c' h1 hn
  · obtain ⟨c', h1, h2⟩ := key _ _ e.symm c hc
    rw [← h2] at hn ⊢
    exact hcs c' h1 hn
/-- A call of a name that does not count, or of one that has been met. -/
theorem Wst.skip {N : List ByteArray} {bd : ByteArray → List NT} {F F' : List ByteArray} {cs : List NT} (h : Wst N bd F cs F') {c : NT} (hc : c.s ∉ N ∨ c.s ∈ F') : Wst N bd F (cs ++ [c]) F' := by
  refine ⟨h.ext, h.nodup, h.names, fun x hx hn => ?_, h.shut, fun Q hq hcs => h.sound Q hq fun x hx => hcs x (List.mem_append.2 (.inl hx))⟩
  rcases List.mem_append.1 hx with hx | hx
  · exact h.met x hx hn
  · rw [List.mem_singleton] at hx
    subst hx
    rcases hc with hc | hc
    · exact absurd hn hc
    · exact hc
/-- A call of a name that has not been met: it is kept, the calls of the name's bodies are visited. -/
theorem Wst.step {N : List ByteArray} {bd : ByteArray → List NT} {F F1 F2 : List ByteArray} {cs : List NT} (h : Wst N bd F cs F1) {c : NT} (hn : c.s ∈ N) (hc : c.s ∉ F1) (h2 : Wst N bd (F1 ++ [c.s]) (callNs (bd c.s)) F2) : Wst N bd F (cs ++ [c]) F2 := by
  have hsub : ∀ x, x ∈ F1 → x ∈ F2 := fun x hx => h2.sub (List.mem_append.2 (.inl hx))
  have hcm : c.s ∈ F2 := h2.sub (List.mem_append.2 (.inr (List.mem_singleton.2 rfl)))
  refine ⟨?_, fun hF => h2.nodup ?_, fun hF => h2.names ?_, fun x hx hxn => ?_, fun x hx hxF c' hc' hcn => ?_, fun Q hq hcs x hx hxF => ?_⟩
  · obtain ⟨G, rfl⟩ := h.ext
    obtain ⟨G2, rfl⟩ := h2.ext
    exact ⟨G ++ [c.s] ++ G2, by simp⟩
  · rw [List.nodup_append]
    refine ⟨h.nodup hF, by simp, fun a ha b hb => ?_⟩
    rw [List.mem_singleton] at hb
    subst hb
    intro e
    subst e
    exact hc ha
  · intro n hnn
    rcases List.mem_append.1 hnn with h3 | h3
    · exact h.names hF n h3
    · rw [List.mem_singleton] at h3
      subst h3
      exact hn
  · rcases List.mem_append.1 hx with h3 | h3
    · exact hsub _ (h.met x h3 hxn)
    · rw [List.mem_singleton] at h3
      subst h3
      exact hcm
  · by_cases h1 : x ∈ F1
    · exact hsub _ (h.shut x h1 hxF c' hc' hcn)
    · by_cases hxc : x = c.s
      · subst hxc
        exact h2.met c' hc' hcn
      · exact h2.shut x hx (fun h3 => by
          rcases List.mem_append.1 h3 with h3 | h3
          · exact h1 h3
          · exact hxc (List.mem_singleton.1 h3)) c' hc' hcn
  · have hqc : Q c.s := hcs c (List.mem_append.2 (.inr (List.mem_singleton.2 rfl))) hn
    by_cases h1 : x ∈ F1
    · exact h.sound Q hq (fun y hy => hcs y (List.mem_append.2 (.inl hy))) x h1 hxF
    · by_cases hxc : x = c.s
      · subst hxc; exact hqc
      · exact h2.sound Q hq (fun y hy hyn => hq c.s hqc y hy hyn) x hx fun h3 => by
          rcases List.mem_append.1 h3 with h3 | h3
          · exact h1 h3
          · exact hxc (List.mem_singleton.1 h3)
/-- How many names are still to come: the depth of the visits. -/
def leftW (N F : List ByteArray) : Nat := (N.filter fun n => !hasN F n).length
theorem filter_lessW {p q : ByteArray → Bool} : ∀ {m : List ByteArray} {x : ByteArray}, (∀ y, y ∈ m → q y = true → p y = true) → x ∈ m → p x = true → q x = false → (m.filter q).length < (m.filter p).length
  | [], x, _, hx, _, _ => by cases hx
  | y :: m, x, hpq, hx, hp, hq => by
    have hle : (m.filter q).length ≤ (m.filter p).length := by
      have key : ∀ k : List ByteArray, (∀ y, y ∈ k → q y = true → p y = true) → (k.filter q).length ≤ (k.filter p).length := by
        intro k
        induction k with
        | nil => intro _; simp
        | cons z k ih =>
          intro hk
          have h1 := ih fun y hy => hk y (by simp [hy])
          rw [List.filter_cons, List.filter_cons]
          by_cases hz : q z = true
          · rw [if_pos hz, if_pos (hk z (by simp) hz)]; simp; omega
          · rw [if_neg hz]; split <;> simp <;> omega
      exact key m fun y hy => hpq y (by simp [hy])
    rw [List.filter_cons, List.filter_cons]
    rcases List.mem_cons.1 hx with e | e
    · subst e
      rw [if_pos hp, hq]
      simp
      omega
    · have h1 := filter_lessW (fun y hy => hpq y (by simp [hy])) e hp hq
      by_cases hz : q y = true
      · rw [if_pos hz, if_pos (hpq y (by simp) hz)]; simp; omega
      · rw [if_neg hz]; split <;> simp <;> omega
theorem leftW_step {N F : List ByteArray} {x : ByteArray} (hn : x ∈ N) (hx : x ∉ F) : leftW N (F ++ [x]) < leftW N F := by
  unfold leftW
  refine filter_lessW (x := x) (fun y _ hy => ?_) hn ?_ ?_
  · rw [Bool.not_eq_true'] at hy ⊢
    rw [Bool.eq_false_iff] at hy ⊢
    exact fun h => hy (hasN_iff.2 (List.mem_append.2 (.inl (hasN_iff.1 h))))
  · rw [Bool.not_eq_true', Bool.eq_false_iff]
    exact fun h => hx (hasN_iff.1 h)
  · rw [Bool.not_eq_false']
    exact hasN_iff.2 (List.mem_append.2 (.inr (List.mem_singleton.2 rfl)))
/-- More has come: no more is left. -/
theorem leftW_ext {N F G : List ByteArray} : leftW N (F ++ G) ≤ leftW N F := by
  unfold leftW
  rw [← List.countP_eq_length_filter, ← List.countP_eq_length_filter]
  refine List.countP_mono_left fun x _ h => ?_
  rw [Bool.not_eq_true', Bool.eq_false_iff] at h ⊢
  exact fun h2 => h (hasN_iff.2 (List.mem_append.2 (.inl (hasN_iff.1 h2))))

/-! ### The bodies of a name -/
/-- The bodies of all definitions of a name, one behind the other. -/
def bodD : List NT → ByteArray → List NT
  | [], _ => []
  | d :: l, n => (if d.s = n then d.b else []) ++ bodD l n
def bodN (l : List NT) (n : ByteArray) : List NT := bodD (defsN l) n
theorem bodD_append : ∀ (l m : List NT) (n : ByteArray), bodD (l ++ m) n = bodD l n ++ bodD m n
  | [], m, n => rfl
  | d :: l, m, n => by rw [List.cons_append, bodD, bodD, bodD_append l m n, List.append_assoc]
theorem bodD_none : ∀ {l : List NT} {n : ByteArray}, n ∉ l.map NT.s → bodD l n = []
  | [], n, _ => rfl
  | d :: l, n, h => by
    rw [List.map_cons, List.mem_cons, not_or] at h
    rw [bodD, if_neg (fun e => h.1 e.symm), bodD_none h.2]
    rfl
theorem bodD_tots : ∀ (l : List NT) (n : ByteArray), tots (bodD l n) ≤ tots l
  | [], n => by rw [bodD]; exact Nat.le_refl _
  | d :: l, n => by
    have h1 := bodD_tots l n
    have h2 := tot_eq d
    rw [bodD, tots_append, tots_cons]
    split
    · omega
    · rw [tots_nil]; omega
theorem tots_filter (p : NT → Bool) : ∀ l : List NT, tots (l.filter p) ≤ tots l
  | [] => by simp
  | x :: l => by
    have h1 := tots_filter p l
    rw [List.filter_cons, tots_cons]
    split
    · rw [tots_cons]; omega
    · omega
theorem bodN_tots (l : List NT) (n : ByteArray) : tots (bodN l n) ≤ tots l := Nat.le_trans (bodD_tots _ n) (tots_filter _ l)
theorem findN_defs : ∀ (l : List NT) (n : ByteArray), findN (defsN l) n = findN l n
  | [], n => rfl
  | x :: l, n => by
    have := findN_defs l n
    unfold findN defsN at this ⊢
    rw [List.filter_cons]
    by_cases hx : isDef x = true
    · rw [if_pos hx, List.find?_cons, List.find?_cons, this]
    · rw [if_neg hx, this, List.find?_cons]
      have : isDefOf n x = false := by
        unfold isDefOf
        unfold isDef at hx
        rw [Bool.not_eq_true] at hx
        rw [hx]
        rfl
      rw [this]
theorem bodN_find {l : List NT} {n : ByteArray} {d : NT} (hn : (namesN l).Nodup) (h : findN l n = some d) : bodN l n = d.b := by
  rw [← findN_defs] at h
  unfold namesN at hn
  unfold bodN
  revert hn h
  generalize hD : defsN l = D
  have hk : ∀ x, x ∈ D → x.k = 6 := fun x hx => by
    rw [← hD] at hx
    unfold defsN isDef at hx
    simpa using (List.mem_filter.1 hx).2
  clear hD
  induction D with
  | nil => intro _ h; cases h
  | cons x D ih =>
    intro hn h
    rw [List.map_cons, List.nodup_cons] at hn
    unfold findN at h ih
    rw [List.find?_cons] at h
    rw [bodD]
    by_cases hx : x.s = n
    · subst hx
      have : isDefOf x.s x = true := by unfold isDefOf; rw [hk x (by simp)]; simp
      rw [this] at h
      injection h with h
      subst h
      rw [if_pos rfl, bodD_none hn.1, List.append_nil]
    · have : isDefOf n x = false := by unfold isDefOf; simp [hx]
      rw [this] at h
      rw [if_neg hx, ih (fun y hy => hk y (by simp [hy])) hn.2 h]
      rfl
/-- What has come from the main nodes on: what Reachable is to answer. -/
theorem rch_ofW {l : List NT} {F R : List ByteArray} (h : Wst (namesN l) (bodN l) [] (callNs (mainN l)) F) (ha : R.Pairwise bLt) (hm : ∀ n, n ∈ R ↔ n ∈ F) : RchIs l R := by
  have hx : ∀ x : ByteArray, x ∉ ([] : List ByteArray) := fun x h => by cases h
  have hnm := h.names (fun n h => by cases h)
  refine ⟨ha, fun n hn => hnm n ((hm n).1 hn), fun hnd n => ?_⟩
  rw [hm n]
  constructor
  · intro hn
    refine h.sound (Rch l) (fun x hx c hc hcn => ?_) (fun c hc hcn => Rch.main c hc hcn) n hn (hx n)
    obtain ⟨d, hd⟩ := findN_of_mem hx.names
    rw [bodN_find hnd hd] at hc
    exact Rch.step x d c hx hd hc hcn
  · intro hn
    induction hn with
    | main c h1 h2 => exact h.met c h1 h2
    | step n d c h0 h1 h2 h3 ih => exact h.shut n ih (hx n) c (by rw [bodN_find hnd h1]; exact h2) h3
end Go.Proofs.Ytkipmaoeejdncaa
