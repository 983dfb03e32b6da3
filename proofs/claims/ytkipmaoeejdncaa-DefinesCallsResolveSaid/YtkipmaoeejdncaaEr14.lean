/-
  Names, calls, checks and reach of nodes that differ in their places only. No program is imported here.
-/
import Derived.Test.YtkipmaoeejdncaaCh14
namespace Go.Proofs.Ytkipmaoeejdncaa
open NT
set_option linter.unusedVariables false
set_option linter.unusedSimpArgs false

theorem callN_er (t : NT) : callN t.er = (callN t).map er := by
  refine NT.ind (M := fun t => callN t.er = (callN t).map er) (fun t h1 h2 => ?_) t
  have key : ∀ l : List NT, (∀ x, x ∈ l → callN x.er = (callN x).map er) → callNs (ers l) = (callNs l).map er := by
    intro l
    induction l with
    | nil => intro _; simp [ers, callNs_nil]
    | cons x l ih =>
      intro h
      rw [ers, callNs_cons, callNs_cons, List.map_append, h x (by simp), ih fun y hy => h y (by simp [hy])]
  rw [callN_eq t.er, callN_eq t, er_k, er_b, er_l, key _ h1, key _ h2]
  by_cases hk : t.k = 4 <;> simp [hk]
theorem callNs_ers : ∀ l : List NT, callNs (ers l) = (callNs l).map er
  | [] => by simp [ers, callNs_nil]
  | x :: l => by rw [ers, callNs_cons, callNs_cons, List.map_append, callN_er, callNs_ers l]
theorem defsN_ers : ∀ l : List NT, defsN (ers l) = (defsN l).map er
  | [] => rfl
  | x :: l => by
    have := defsN_ers l
    unfold defsN at this ⊢
    rw [ers, List.filter_cons, List.filter_cons, show isDef x.er = isDef x from by unfold isDef; rw [er_k], this]
    split <;> rfl
theorem mainN_ers : ∀ l : List NT, mainN (ers l) = (mainN l).map er
  | [] => rfl
  | x :: l => by
    have := mainN_ers l
    unfold mainN at this ⊢
    rw [ers, List.filter_cons, List.filter_cons, show isDef x.er = isDef x from by unfold isDef; rw [er_k], this]
    split <;> rfl
theorem mainN_ers' (l : List NT) : mainN (ers l) = ers (mainN l) := by rw [mainN_ers, ers_map]
theorem namesN_ers (l : List NT) : namesN (ers l) = namesN l := by
  unfold namesN
  rw [defsN_ers, List.map_map]
  exact List.map_congr_left fun t _ => er_s t
theorem findN_ers : ∀ (l : List NT) (n : ByteArray), findN (ers l) n = (findN l n).map er
  | [], n => rfl
  | x :: l, n => by
    have := findN_ers l n
    unfold findN at this ⊢
    rw [ers, List.find?_cons, List.find?_cons, show isDefOf n x.er = isDefOf n x from by unfold isDefOf; rw [er_k, er_s], this]
    split <;> rfl
theorem dupN_er : ∀ (l : List NT) (seen : List ByteArray), dupN seen (l.map er) = dupN seen l
  | [], seen => rfl
  | x :: l, seen => by
    rw [List.map_cons]
    unfold dupN
    rw [er_s, er_a, dupN_er l]
theorem checkN_ers (l : List NT) : checkN (ers l) = checkN l := by
  unfold checkN
  rw [defsN_ers, dupN_er, callNs_ers, List.find?_map]
  have h : (badCall (ers l) ∘ er) = badCall l := by
    funext t
    show badCall (ers l) t.er = badCall l t
    unfold badCall
    rw [namesN_ers, er_s]
  rw [h]
  split
  · rfl
  · cases (callNs l).find? (badCall l) with
    | none => rfl
    | some t => simp [er_a]
theorem rch_ers {l : List NT} {n : ByteArray} : Rch (ers l) n ↔ Rch l n := by
  constructor
  · intro h
    induction h with
    | main c h1 h2 =>
      rw [mainN_ers', callNs_ers] at h1
      obtain ⟨c', hc, rfl⟩ := List.mem_map.1 h1
      rw [namesN_ers, er_s] at h2
      rw [er_s]
      exact .main c' hc h2
    | step n d c h0 h1 h2 h3 ih =>
      rw [findN_ers] at h1
      obtain ⟨d', hd, rfl⟩ := Option.map_eq_some_iff.1 h1
      rw [er_b, callNs_ers] at h2
      obtain ⟨c', hc, rfl⟩ := List.mem_map.1 h2
      rw [namesN_ers, er_s] at h3
      rw [er_s]
      exact .step n d' c' ih hd hc h3
  · intro h
    induction h with
    | main c h1 h2 =>
      rw [← er_s c]
      exact .main c.er (by rw [mainN_ers', callNs_ers]; exact List.mem_map.2 ⟨c, h1, rfl⟩) (by rw [namesN_ers, er_s]; exact h2)
    | step n d c h0 h1 h2 h3 ih =>
      rw [← er_s c]
      exact .step n d.er c.er ih (by rw [findN_ers, h1]; rfl) (by rw [er_b, callNs_ers]; exact List.mem_map.2 ⟨c, h2, rfl⟩) (by rw [namesN_ers, er_s]; exact h3)

/-! ### What a program's answers are like -/
/-- The order of bytes. -/
def bLt (a b : ByteArray) : Prop := toL a < toL b
/-- What Reachable answers. -/
structure RchIs (l : List NT) (R : List ByteArray) : Prop where
  asc : R.Pairwise bLt
  names : ∀ n, n ∈ R → n ∈ namesN l
  all : (namesN l).Nodup → ∀ n, n ∈ R ↔ Rch l n
theorem bLt_irrefl (a : ByteArray) : ¬ bLt a a := by
  unfold bLt
  exact List.lt_irrefl _
theorem RchIs.nodup {l : List NT} {R : List ByteArray} (h : RchIs l R) : R.Nodup := by
  rw [List.nodup_iff_pairwise_ne]
  exact h.asc.imp fun {a b} hab (e : a = b) => bLt_irrefl a (by rw [← e] at hab; exact hab)
theorem RchIs.of_ers {l : List NT} {R : List ByteArray} (h : RchIs (ers l) R) : RchIs l R :=
  ⟨h.asc, fun n hn => by have := h.names n hn; rwa [namesN_ers] at this, fun hn n => by rw [h.all (by rw [namesN_ers]; exact hn), rch_ers]⟩
theorem RchIs.to_ers {l : List NT} {R : List ByteArray} (h : RchIs l R) : RchIs (ers l) R :=
  ⟨h.asc, fun n hn => by rw [namesN_ers]; exact h.names n hn, fun hn n => by rw [rch_ers]; exact h.all (by rw [namesN_ers] at hn; exact hn) n⟩
/-- Two answers for one template are the same. -/
theorem asc_same : ∀ {R S : List ByteArray}, R.Pairwise bLt → S.Pairwise bLt → (∀ n, n ∈ R ↔ n ∈ S) → R = S
  | [], [], _, _, _ => rfl
  | [], b :: S, _, _, h => absurd ((h b).2 (by simp)) (by simp)
  | a :: R, [], _, _, h => absurd ((h a).1 (by simp)) (by simp)
  | a :: R, b :: S, hR, hS, h => by
    rw [List.pairwise_cons] at hR hS
    have hab : a = b := by
      rcases List.mem_cons.1 ((h a).1 (by simp)) with e | h1
      · exact e
      rcases List.mem_cons.1 ((h b).2 (by simp)) with e | h2
      · exact e.symm
      exact absurd (List.lt_trans (hS.1 a h1) (hR.1 b h2)) (List.lt_irrefl _)
    subst hab
    congr 1
    refine asc_same hR.2 hS.2 fun n => ⟨fun hn => ?_, fun hn => ?_⟩
    · rcases List.mem_cons.1 ((h n).1 (by simp [hn])) with e | h1
      · subst e; exact absurd (hR.1 n hn) (bLt_irrefl n)
      · exact h1
    · rcases List.mem_cons.1 ((h n).2 (by simp [hn])) with e | h1
      · subst e; exact absurd (hS.1 n hn) (bLt_irrefl n)
      · exact h1
end Go.Proofs.Ytkipmaoeejdncaa
