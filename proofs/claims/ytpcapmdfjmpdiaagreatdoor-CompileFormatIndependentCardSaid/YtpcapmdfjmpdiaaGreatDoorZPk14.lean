/-
  Contracts: the program's isBlock and inside.
  Contract: the program's Count.
  Contract: the program's Nest.
  The reference of layer 17: its size, prints and addr on a parsed template are what the pure side counts.
  Layer 17, what the reference's Code splits: its definitions are found by their names, its escapers are as many as its prints; the code, definition by definition.
  Layer 17 as the program does it, as plain data: each part is analyzed by itself; calls are linked at the end. No program is imported here.
  The program of layer 17: the assembler as it lies in memory; an instruction appended.
  Contracts: the program's Names and Check of layer 14.
-/
import Derived.Test.YtpcapmdfjmpdiaaGreatDoorZCt12
import Derived.Test.YtpcapmdfjmpdiaaGreatDoorZSz17
import Derived.Test.YtpcapmdfjmpdiaaGreatDoorZPure12
import Derived.Test.YtpcapmdfjmpdiaaGreatDoorZDb17
import Derived.Test.YtpcapmdfjmpdiaaGreatDoorZIq16
import Derived.Test.YtpcapmdfjmpdiaaGreatDoorZMp14
namespace Go.Proofs.YtpcapmdfjmpdiaaGreatDoor
open Go.RowKit Go.BigFrame NT
set_option linter.unusedVariables false
set_option linter.unusedSimpArgs false

theorem isBlock_c (k : Int) (w : World) : Calls Tryz.prog 81 #[.int .i64 k] w fun e w' => e = .returned (.bool (blkI k)) ∧ w' = w := by
  by_cases h2 : k = 2
  · subst h2
    go_enter Tryz.func81, Tryz.ntmps81
    go_wp2_with fail
    go_ret
    exact ⟨rfl, rfl⟩
  by_cases h3 : k = 3
  · subst h3
    go_enter Tryz.func81, Tryz.ntmps81
    go_wp2_with fail
    go_ret
    exact ⟨rfl, rfl⟩
  by_cases h6 : k = 6
  · subst h6
    go_enter Tryz.func81, Tryz.ntmps81
    go_wp2_with fail
    go_ret
    exact ⟨rfl, rfl⟩
  have e2 : (k == 2) = false := by simpa using h2
  have e3 : (k == 3) = false := by simpa using h3
  have e6 : (k == 6) = false := by simpa using h6
  have hb : blkI k = false := by unfold blkI; rw [e2, e3, e6]; rfl
  have HB := Lib.hid hb
  clear hb
  go_enter Tryz.func81, Tryz.ntmps81
  go_wp2_with fail
  go_ret
  exact ⟨by rw [HB.out]; rfl, rfl⟩
/-! ### inside -/
abbrev nval (k a : Int) (s p : ByteArray) (h e : Bool) (A : Option Addr) (n c : Nat) (B : Option Addr) (m d : Nat) : Value := .agg #[.int .i64 k, .int .i64 a, .string s, .string p, .bool h, .bool e, .slice A n c, .slice B m d]
end Go.Proofs.YtpcapmdfjmpdiaaGreatDoor

namespace Go.Proofs.YtpcapmdfjmpdiaaGreatDoor
open Go.RowKit Go.BigFrame NT
set_option linter.unusedVariables false
set_option linter.unusedSimpArgs false

end Go.Proofs.YtpcapmdfjmpdiaaGreatDoor

namespace Go.Proofs.YtpcapmdfjmpdiaaGreatDoor
open Go.RowKit Go.BigFrame NT
set_option linter.unusedVariables false
set_option linter.unusedSimpArgs false

end Go.Proofs.YtpcapmdfjmpdiaaGreatDoor

namespace Go.Proofs.YtpcapmdfjmpdiaaGreatDoor
open NT
set_option linter.unusedVariables false
set_option linter.unusedSimpArgs false

/-! ### The names and the addresses -/
def nmsOf (ds : List (NT × List Nat)) : List ByteArray := ds.map fun d => d.1.s
theorem dfs_snoc : ∀ (l : List NT) (x : NT) (es : List Nat), dfs (l ++ [x]) es = dfs l es ++ dfs [x] (es.drop ((l.map prf).sum))
  | [], x, es => by show _ = [] ++ _; rw [List.nil_append]; rfl
  | y :: l, x, es => by
    rw [List.cons_append]
    unfold dfs
    rw [dfs_snoc l x, List.drop_drop, List.map_cons, List.sum_cons]
    split
    · rw [List.cons_append]; rfl
    · rfl
theorem dsz_snoc : ∀ (ds : List (NT × List Nat)) (d : NT × List Nat), dsz (ds ++ [d]) = dsz ds + (sizs d.1.b + 1)
  | [], d => by simp [dsz]
  | e :: r, d => by
    rw [List.cons_append]
    unfold dsz
    rw [dsz_snoc r]
    omega
/-! ### Which nodes a template has -/
/-- A node of a template; n: it lies within another. -/
inductive Wk : Bool → NT → Prop
  | mk (n : Bool) (t : NT) (h0 : 0 ≤ t.k) (h6 : t.k ≤ 6) (hn : n = true → t.k ≠ 6) (he : t.e = false → t.l = []) (h2 : t.k ≠ 2 → t.l = []) (h2e : t.k ≠ 2 → t.e = false) (hk : t.k ≠ 2 → t.k ≠ 3 → t.k ≠ 6 → t.b = []) (hb : ∀ x, x ∈ t.b → Wk true x) (hl : ∀ x, x ∈ t.l → Wk true x) : Wk n t
theorem Wk.body {n : Bool} {t : NT} (h : Wk n t) : ∀ x, x ∈ t.b → Wk true x := by cases h; assumption
theorem Wk.els {n : Bool} {t : NT} (h : Wk n t) : ∀ x, x ∈ t.l → Wk true x := by cases h; assumption
theorem Wk.facts {n : Bool} {t : NT} (h : Wk n t) : 0 ≤ t.k ∧ t.k ≤ 6 ∧ (n = true → t.k ≠ 6) ∧ (t.e = false → t.l = []) ∧ (t.k ≠ 2 → t.l = []) ∧ (t.k ≠ 2 → t.k ≠ 3 → t.k ≠ 6 → t.b = []) := by
  cases h with
  | mk n t h0 h6 hn he h2 _ hk _ _ => exact ⟨h0, h6, hn, he, h2, hk⟩
/-- Only an If has an Else. -/
theorem Wk.noElse {n : Bool} {t : NT} (h : Wk n t) : t.k ≠ 2 → t.e = false := by cases h; assumption
theorem ers_nil17 {l : List NT} (h : ers l = []) : l = [] := by
  have := congrArg List.length h
  rw [ers_len] at this
  exact List.eq_nil_of_length_eq_zero (by simpa using this)
theorem wk_er (t : NT) : ∀ n, Wk n t.er → Wk n t := by
  refine ind (M := fun t => ∀ n, Wk n t.er → Wk n t) (fun t h1 h2 n h => ?_) t
  have hb := h.body
  have hl := h.els
  obtain ⟨e1, e2, e3, e4, e5, e6⟩ := h.facts
  rw [er_b, ers_map] at hb
  rw [er_l, ers_map] at hl
  rw [er_k] at e1 e2 e3 e5 e6
  rw [er_e, er_l] at e4
  rw [er_l] at e5
  rw [er_b] at e6
  have e7 := h.noElse
  rw [er_k, er_e] at e7
  exact .mk n t e1 e2 e3 (fun he => ers_nil17 (e4 he)) (fun he => ers_nil17 (e5 he)) e7 (fun a b c => ers_nil17 (e6 a b c)) (fun x hx => h1 x hx _ (hb _ (List.mem_map_of_mem hx))) (fun x hx => h2 x hx _ (hl _ (List.mem_map_of_mem hx)))
theorem wk_ers {n : Bool} {l m : List NT} (h : ∀ x, x ∈ l → Wk n x) (he : ers m = l) : ∀ x, x ∈ m → Wk n x := by
  intro x hx
  refine wk_er x n (h _ ?_)
  rw [← he, ers_map]
  exact List.mem_map_of_mem hx
theorem nd_wk {n : Bool} {t : Tok} {e : Bool} {b l : List NT} (h6 : t.k ≤ 6) (hn : n = true → t.k ≠ 6) (he : e = false → l = []) (h2 : t.k ≠ 2 → l = []) (h2e : t.k ≠ 2 → e = false) (hk : blk t.k = false → b = []) (hb : ∀ x, x ∈ b → Wk true x) (hl : ∀ x, x ∈ l → Wk true x) : Wk n (nd t e b l) := by
  refine .mk n _ (show (0 : Int) ≤ ((t.k : Nat) : Int) by omega) (show ((t.k : Nat) : Int) ≤ 6 by omega) (fun h => show ((t.k : Nat) : Int) ≠ 6 by have := hn h; omega) he (fun h => h2 ?_) (fun h => h2e ?_) (fun a b c => hk ?_) hb hl
  · intro e
    exact h (show ((t.k : Nat) : Int) = 2 by omega)
  · intro e
    exact h (show ((t.k : Nat) : Int) = 2 by omega)
  · replace a : ((t.k : Nat) : Int) ≠ 2 := a
    replace b : ((t.k : Nat) : Int) ≠ 3 := b
    replace c : ((t.k : Nat) : Int) ≠ 6 := c
    unfold blk
    rw [show (t.k == 2) = false from beq_eq_false_iff_ne.2 (by omega), show (t.k == 3) = false from beq_eq_false_iff_ne.2 (by omega), show (t.k == 6) = false from beq_eq_false_iff_ne.2 (by omega)]
    rfl
def K8 (t : Tok) : Prop := t.k ≤ 8
theorem pl_wk : ∀ (f : Nat) (ts : List Tok) (op : Nat) (ie : Bool) (d c : Nat) (l : List NT) (r : List Tok) (c' : Nat), (∀ t ∈ ts, K8 t) → pl f ts op ie d c = .ok (l, r, c') →
    (∀ x, x ∈ l → Wk (decide (0 < d)) x) ∧ (∀ t ∈ r, K8 t) ∧ ∀ u r', r = u :: r' → u.k = 7 → op = 2
  | 0, _, _, _, _, _, _, _, _, _, h => by cases h
  | f + 1, [], op, ie, d, c, l, r, c', hg, h => by
    simp [pl] at h
    obtain ⟨rfl, rfl, rfl⟩ := h
    exact ⟨by simp, hg, fun u r' h => by cases h⟩
  | f + 1, t :: ts, op, ie, d, c, l, r, c', hg, h => by
    have hgt : ∀ u ∈ ts, K8 u := fun u hu => hg u (by simp [hu])
    have hg0 : t.k ≤ 8 := hg t (by simp)
    unfold pl at h
    split at h
    · rename_i h7
      split at h
      · rename_i ho
        simp at h; obtain ⟨rfl, rfl, rfl⟩ := h
        exact ⟨by simp, hg, fun u r' he hu => ho.1⟩
      · cases h
    rename_i h7
    split at h
    · rename_i h8
      split at h
      · cases h
      · simp at h; obtain ⟨rfl, rfl, rfl⟩ := h
        refine ⟨by simp, hg, fun u r' he hu => ?_⟩
        injection he with h1 h2
        subst h1
        omega
    rename_i h8
    split at h
    · cases h
    rename_i hd
    have h6 : t.k ≤ 6 := by omega
    have hn6 : decide (0 < d) = true → t.k ≠ 6 := fun h e => hd (.inl ⟨e, of_decide_eq_true h⟩)
    split at h
    · cases h
    split at h
    · obtain ⟨l1, rfl, h1⟩ := cons_ok h
      obtain ⟨e1, e2, e3⟩ := pl_wk f ts _ _ _ _ _ _ _ hgt h1
      refine ⟨fun x hx => ?_, e2, e3⟩
      rcases List.mem_cons.1 hx with rfl | hx
      · exact nd_wk h6 hn6 (fun _ => rfl) (fun _ => rfl) (fun _ => rfl) (fun _ => rfl) (by simp) (by simp)
      · exact e1 x hx
    rename_i hbk
    have hbk : blk t.k = true := by simpa using hbk
    split at h
    · cases h
    rename_i b r1 c1 hp
    obtain ⟨e1, e2, e3⟩ := pl_wk f ts _ _ _ _ _ _ _ hgt hp
    rw [decide_eq_true (show 0 < d + 1 by omega)] at e1
    split at h
    · cases h
    rename_i u r2
    split at h
    · rename_i hu7
      have ho2 := e3 u r2 rfl hu7
      split at h
      · cases h
      rename_i b2 r3 c2 hp2
      obtain ⟨f1, f2, f3⟩ := pl_wk f r2 _ _ _ _ _ _ _ (fun v hv => e2 v (by simp [hv])) hp2
      rw [decide_eq_true (show 0 < d + 1 by omega)] at f1
      split at h
      · cases h
      rename_i v r4
      obtain ⟨l1, rfl, h1⟩ := cons_ok h
      obtain ⟨g1, g2, g3⟩ := pl_wk f r4 _ _ _ _ _ _ _ (fun y hy => f2 y (by simp [hy])) h1
      refine ⟨fun x hx => ?_, g2, g3⟩
      rcases List.mem_cons.1 hx with rfl | hx
      · exact nd_wk h6 hn6 (fun h => by cases h) (fun h => absurd ho2 h) (fun h => absurd ho2 h) (fun h => by rw [hbk] at h; cases h) e1 f1
      · exact g1 x hx
    · obtain ⟨l1, rfl, h1⟩ := cons_ok h
      obtain ⟨g1, g2, g3⟩ := pl_wk f r2 _ _ _ _ _ _ _ (fun v hv => e2 v (by simp [hv])) h1
      refine ⟨fun x hx => ?_, g2, g3⟩
      rcases List.mem_cons.1 hx with rfl | hx
      · exact nd_wk h6 hn6 (fun _ => rfl) (fun _ => rfl) (fun _ => rfl) (fun h => by rw [hbk] at h; cases h) e1 (by simp)
      · exact g1 x hx
theorem form_k8 {ws : List (List UInt8)} {k : Nat} {n : List UInt8} {p : Option (List UInt8)} (h : formW ws = some (k, n, p)) : k ≤ 8 := by
  unfold formW at h
  split at h
  · cases h
  all_goals (repeat' (split at h))
  all_goals first
    | (cases h; done)
    | (simp at h; obtain ⟨rfl, _⟩ := h; omega)
    | (simp at h; omega)
theorem dir_k8 {ws : List (List UInt8)} {t : Tok} (h : dirOf ws = .ok t) : K8 t := by
  unfold dirOf at h
  cases hf : formW ws with
  | none => rw [hf] at h; cases h
  | some r =>
    obtain ⟨k, n, p⟩ := r
    rw [hf] at h
    dsimp only at h
    split at h
    · injection h with h
      subst h
      exact form_k8 hf
    · cases h
theorem lx_k8 {l : List UInt8} {a : Nat} {ts : List Tok} (h : Lx l a ts) : ∀ t ∈ ts, K8 t := by
  induction h with
  | nil a => simp
  | all l a hl hf => intro t ht; simp at ht; subst ht; exact Nat.zero_le _
  | text l a k ts hf _ ih =>
    intro t ht
    rcases List.mem_cons.1 ht with rfl | ht
    · exact Nat.zero_le _
    · exact ih t ht
  | dir l a e t ts hf hc hd _ ih =>
    intro u hu
    rcases List.mem_cons.1 hu with rfl | hu
    · exact (show K8 t from dir_k8 hd)
    · exact ih u hu
theorem Parsed.wk {l : List NT} (h : Parsed l) : ∀ x, x ∈ l → Wk false x := by
  obtain ⟨x, ts, c, hx, hl, hp⟩ := h
  exact (pl_wk _ ts _ _ _ _ _ _ _ (lx_k8 hl) hp).1
/-! ### The reference counts the same -/
theorem wk_counts (t : NT) : ∀ n, Wk n t → szr t = siz t ∧ prr t = prf t := by
  refine ind (M := fun t => ∀ n, Wk n t → szr t = siz t ∧ prr t = prf t) (fun t h1 h2 n h => ?_) t
  have key : ∀ l : List NT, (∀ x, x ∈ l → Wk true x) → (∀ x, x ∈ l → ∀ n, Wk n x → szr x = siz x ∧ prr x = prf x) → szrs l = sizs l ∧ prrs l = prns l := by
    intro l
    induction l with
    | nil => intro _ _; exact ⟨by rw [szrs_nil, sizs_nil], by rw [prrs_nil, prns_nil]⟩
    | cons x l ih =>
      intro hw hm
      obtain ⟨e1, e2⟩ := hm x (by simp) _ (hw x (by simp))
      obtain ⟨e3, e4⟩ := ih (fun y hy => hw y (by simp [hy])) (fun y hy => hm y (by simp [hy]))
      have h6 := (hw x (by simp)).facts.2.2.1 rfl
      unfold prf at e2
      rw [if_neg h6] at e2
      rw [szrs_cons, sizs_cons, prrs_cons, prns_cons, e1, e2, e3, e4]
      exact ⟨rfl, rfl⟩
  obtain ⟨b1, b2⟩ := key t.b h.body h1
  obtain ⟨l1, l2⟩ := key t.l h.els h2
  obtain ⟨f1, f2, f3, f4, f5, f6⟩ := h.facts
  unfold prf
  rw [szr_eq, siz_eq, prr_eq, prn_eq, b1, b2, l1, l2]
  have hk : t.k = 0 ∨ t.k = 1 ∨ t.k = 2 ∨ t.k = 3 ∨ t.k = 4 ∨ t.k = 5 ∨ t.k = 6 := by omega
  have hl : t.k ≠ 2 → prns t.l = 0 := fun h => by rw [f5 h, prns_nil]
  have hb : t.k ≠ 2 → t.k ≠ 3 → t.k ≠ 6 → prns t.b = 0 := fun a b c => by rw [f6 a b c, prns_nil]
  rcases hk with hk | hk | hk | hk | hk | hk | hk
  · have := hl (by omega); have := hb (by omega) (by omega) (by omega); simp [hk]; omega
  · have := hl (by omega); have := hb (by omega) (by omega) (by omega); simp [hk]; omega
  · cases he : t.e with
    | false =>
      have h0 := f4 he
      rw [h0, prns_nil, sizs_nil]
      simp [hk]
    | true => simp [hk]; omega
  · have := hl (by omega); simp [hk]; omega
  · have := hl (by omega); have := hb (by omega) (by omega) (by omega); simp [hk]; omega
  · have := hl (by omega); have := hb (by omega) (by omega) (by omega); simp [hk]; omega
  · have := hl (by omega); simp [hk]; omega
theorem wk_szrs : ∀ {n : Bool} {l : List NT}, (∀ x, x ∈ l → Wk n x) → szrs l = sizs l ∧ prrs l = (l.map prf).sum
  | n, [], _ => ⟨by rw [szrs_nil, sizs_nil], by rw [prrs_nil]; rfl⟩
  | n, x :: l, h => by
    obtain ⟨e1, e2⟩ := wk_counts x n (h x (by simp))
    obtain ⟨e3, e4⟩ := wk_szrs (n := n) (l := l) fun y hy => h y (by simp [hy])
    rw [szrs_cons, sizs_cons, prrs_cons, List.map_cons, List.sum_cons, e1, e2, e3, e4]
    exact ⟨rfl, rfl⟩
end Go.Proofs.YtpcapmdfjmpdiaaGreatDoor

namespace Go.Proofs.YtpcapmdfjmpdiaaGreatDoor
open NT
set_option linter.unusedVariables false
set_option linter.unusedSimpArgs false

theorem dfs_fst : ∀ (l : List NT) (es : List Nat), (dfs l es).map (fun d => d.1) = defsN l
  | [], _ => rfl
  | x :: l, es => by
    unfold dfs defsN
    by_cases h : x.k = 6
    · rw [if_pos h, List.map_cons, dfs_fst l, List.filter_cons_of_pos (by unfold isDef; exact beq_iff_eq.2 h)]
      rfl
    · rw [if_neg h, dfs_fst l, List.filter_cons_of_neg (by unfold isDef; rw [beq_iff_eq]; exact h)]
      rfl
theorem nmsOf_dfs (l : List NT) (es : List Nat) : nmsOf (dfs l es) = namesN l := by
  unfold nmsOf namesN
  rw [← dfs_fst l es, List.map_map]
  rfl
/-! ### A fault has a number -/
def IR.Nz : IR → Prop | .ok _ _ => True | .no _ e => e ≠ 0
theorem IR.Nz.next {r : IR} {f : HS → List Nat → IR} (h1 : r.Nz) (h2 : ∀ s es, (f s es).Nz) : (r.next f).Nz := by
  cases r with
  | no a e => exact h1
  | ok s es => exact h2 s es
theorem listI_nz_of : ∀ (l : List NT), (∀ x, x ∈ l → ∀ s, (nodeI s x).Nz) → ∀ s, (listI s l).Nz
  | [], _, s => by rw [listI_nil]; exact trivial
  | x :: l, hm, s => by
    rw [listI_cons]
    exact (hm x (by simp) s).next fun s1 e1 => (listI_nz_of l (fun y hy => hm y (by simp [hy])) s1).next fun s2 e2 => trivial
theorem nodeI_nz (t : NT) : ∀ s, (nodeI s t).Nz := by
  refine ind (M := fun t => ∀ s, (nodeI s t).Nz) (fun t h1 h2 s => ?_) t
  have no : ∀ a e, e ≠ 0 → (IR.no a e).Nz := fun a e h => h
  rw [nodeI_eq]
  split
  · exact trivial
  split
  · split
    · exact trivial
    · exact no _ _ (by decide)
  split
  · refine (listI_nz_of _ h1 s).next fun s1 e1 => (listI_nz_of _ h2 s).next fun s2 e2 => ?_
    split
    · exact trivial
    · exact no _ _ (by decide)
  split
  · refine (listI_nz_of _ h1 s).next fun s1 e1 => ?_
    split
    · exact trivial
    · exact no _ _ (by decide)
  split
  · split
    · exact trivial
    · exact no _ _ (by decide)
  split
  · refine (listI_nz_of _ h1 (s0 0)).next fun s1 e1 => ?_
    split
    · exact trivial
    · exact no _ _ (by decide)
  · exact trivial
/-! ### As many escapers as prints -/
def IR.Ln17 (r : IR) (n : Nat) : Prop := ∀ s es, r = .ok s es → es.length = n
theorem IR.Ln17.next {r : IR} {f : HS → List Nat → IR} {m n : Nat} (h1 : r.Ln17 m) (h2 : ∀ s es, es.length = m → (f s es).Ln17 n) : (r.next f).Ln17 n := by
  intro s es h
  cases r with
  | no a e => cases h
  | ok s' es' => exact h2 s' es' (h1 s' es' rfl) s es h
theorem IR.Ln17.no (a : Int) (e n : Nat) : (IR.no a e).Ln17 n := fun _ _ h => by cases h
theorem IR.Ln17.ok {s : HS} {es : List Nat} {n : Nat} (h : es.length = n) : (IR.ok s es).Ln17 n := fun _ _ g => by
  injection g with _ g2
  rw [← g2, h]
theorem listI_ln_of : ∀ (l : List NT) (n : Bool), (∀ x, x ∈ l → Wk n x) → (∀ x, x ∈ l → ∀ n, Wk n x → ∀ s, (nodeI s x).Ln17 (prf x)) → ∀ s, (listI s l).Ln17 (l.map prf).sum
  | [], n, _, _, s => by rw [listI_nil]; exact .ok rfl
  | x :: l, n, hw, hm, s => by
    rw [listI_cons, List.map_cons, List.sum_cons]
    refine (hm x (by simp) n (hw x (by simp)) s).next fun s1 e1 h1 => (listI_ln_of l n (fun y hy => hw y (by simp [hy])) (fun y hy => hm y (by simp [hy])) s1).next fun s2 e2 h2 => .ok ?_
    rw [List.length_append, h1, h2]
theorem sum_prns : ∀ {l : List NT}, (∀ x, x ∈ l → Wk true x) → (l.map prf).sum = prns l
  | [], _ => by rw [prns_nil]; rfl
  | x :: l, h => by
    rw [List.map_cons, List.sum_cons, prns_cons, sum_prns fun y hy => h y (by simp [hy])]
    unfold prf
    rw [if_neg ((h x (by simp)).facts.2.2.1 rfl)]
theorem nodeI_ln17 (t : NT) : ∀ n, Wk n t → ∀ s, (nodeI s t).Ln17 (prf t) := by
  refine ind (M := fun t => ∀ n, Wk n t → ∀ s, (nodeI s t).Ln17 (prf t)) (fun t h1 h2 n h s => ?_) t
  have hb := fun s => listI_ln_of t.b true h.body h1 s
  have hl := fun s => listI_ln_of t.l true h.els h2 s
  simp only [sum_prns h.body] at hb
  simp only [sum_prns h.els] at hl
  obtain ⟨f1, f2, f3, f4, f5, f6⟩ := h.facts
  have hk : t.k = 0 ∨ t.k = 1 ∨ t.k = 2 ∨ t.k = 3 ∨ t.k = 4 ∨ t.k = 5 ∨ t.k = 6 := by omega
  rw [nodeI_eq]
  unfold prf
  rw [prn_eq]
  rcases hk with hk | hk | hk | hk | hk | hk | hk
  · simp [hk]; exact .ok rfl
  · simp [hk]
    split
    · exact .ok rfl
    · exact .no _ _ _
  · simp [hk]
    refine (hb s).next fun s1 e1 g1 => (hl s).next fun s2 e2 g2 => ?_
    split
    · refine .ok ?_
      rw [List.length_append, g1, g2]
      cases he : t.e with
      | true => simp
      | false => rw [f4 he, prns_nil]; simp
    · exact .no _ _ _
  · simp [hk]
    refine (hb s).next fun s1 e1 g1 => ?_
    split
    · exact .ok g1
    · exact .no _ _ _
  · simp [hk]
    split
    · exact .ok rfl
    · exact .no _ _ _
  · simp [hk]; exact .ok rfl
  · simp [hk]
    refine (hb (s0 0)).next fun s1 e1 g1 => ?_
    split
    · exact .ok g1
    · exact .no _ _ _
theorem listI_ln17 {n : Bool} {l : List NT} (h : ∀ x, x ∈ l → Wk n x) {s t : HS} {es : List Nat} (he : listI s l = .ok t es) : es.length = (l.map prf).sum :=
  listI_ln_of l n h (fun x _ => nodeI_ln17 x) s t es he
theorem inferI_len {n : Bool} {l : List NT} (h : ∀ x, x ∈ l → Wk n x) {es : List Nat} {a : Int} (he : inferI l = (es, a, 0)) : es.length = (l.map prf).sum ∧ a = 0 ∧ ∀ k, k ∈ es → k ≤ 4 := by
  unfold inferI at he
  cases hr : listI (s0 0) l with
  | no b e =>
    rw [hr] at he
    have h2 := listI_nz_of l (fun x _ => nodeI_nz x) (s0 0)
    rw [hr] at h2
    injection he with _ g
    injection g with _ g
    exact absurd g h2
  | ok s fs =>
    rw [hr] at he
    dsimp only at he
    split at he
    · injection he with g1 g2
      injection g2 with g2 g3
      subst g1
      exact ⟨listI_ln17 h hr, g2.symm, listI_esc hr⟩
    · injection he with _ g
      injection g with _ g
      cases g
/-! ### How many each definition has, and the main nodes -/
theorem dfs_lens : ∀ (l : List NT) (es : List Nat), es.length = (l.map prf).sum → ∀ d, d ∈ dfs l es → d.2.length = prns d.1.b
  | [], es, _, d, h => by cases h
  | x :: l, es, hl, d, h => by
    rw [List.map_cons, List.sum_cons] at hl
    have hl2 : (es.drop (prf x)).length = (l.map prf).sum := by rw [List.length_drop]; omega
    unfold dfs at h
    split at h
    · rename_i hk
      rcases List.mem_cons.1 h with rfl | h
      · show (es.take (prf x)).length = _
        rw [List.length_take, Nat.min_eq_left (by omega)]
        unfold prf
        rw [if_pos hk]
      · exact dfs_lens l _ hl2 d h
    · exact dfs_lens l _ hl2 d h
theorem mainE_len : ∀ (l : List NT) (es : List Nat), es.length = (l.map prf).sum → (mainE l es).length = prns l
  | [], es, _ => by rw [prns_nil]; rfl
  | x :: l, es, hl => by
    rw [List.map_cons, List.sum_cons] at hl
    have hl2 : (es.drop (prf x)).length = (l.map prf).sum := by rw [List.length_drop]; omega
    unfold mainE
    rw [prns_cons]
    split
    · rename_i hk
      rw [mainE_len l _ hl2, prn_eq, if_neg (by omega), if_neg (by omega), if_neg (by omega), Nat.zero_add]
    · rename_i hk
      rw [List.length_append, mainE_len l _ hl2, List.length_take, Nat.min_eq_left (by omega)]
      unfold prf
      rw [if_neg hk]
/-! ### Step by step -/
theorem take_at17 {l : List NT} {i : Nat} {x : NT} (h : l[i]? = some x) : l.take (i + 1) = l.take i ++ [x] := by
  rw [List.take_add_one, h]
  rfl
/-- The prints of the first i nodes. -/
def pfx (l : List NT) (i : Nat) : Nat := ((l.take i).map prf).sum
theorem dfs_take {l : List NT} {i : Nat} {x : NT} (h : l[i]? = some x) (es : List Nat) : dfs (l.take (i + 1)) es = dfs (l.take i) es ++ (if x.k = 6 then [(x, (es.drop (pfx l i)).take (prf x))] else []) := by
  rw [take_at17 h, dfs_snoc]
  show _ = dfs (l.take i) es ++ _
  congr 1
theorem defsC_snoc (ad : ByteArray → Nat) : ∀ (ds : List (NT × List Nat)) (d : NT × List Nat) (a : Nat), defsC ad (ds ++ [d]) a = defsC ad ds a ++ ((listC ad (a + dsz ds) d.2 d.1.b).1 ++ [⟨7, eB, eB, false, 0, 0⟩])
  | [], d, a => by simp [defsC, dsz]
  | e :: r, d, a => by
    rw [List.cons_append]
    unfold defsC dsz
    rw [defsC_snoc ad r, List.append_assoc, List.cons_append, show a + sizs e.1.b + 1 + dsz r = a + (sizs e.1.b + 1 + dsz r) by omega]
end Go.Proofs.YtpcapmdfjmpdiaaGreatDoor

namespace Go.Proofs.YtpcapmdfjmpdiaaGreatDoor
open NT
set_option linter.unusedVariables false
set_option linter.unusedSimpArgs false

/-! ### Each part analyzed by itself -/
theorem eqH_eq {s t : HS} (h : eqH s t = true) : s = t := (eqH_iff s t).1 h
/-- A definition's node: where it goes on, and its Body by itself. -/
theorem nodeI_def {x : NT} (h : x.k = 6) {s t : HS} {es : List Nat} (he : nodeI s x = .ok t es) : t = s ∧ listI (s0 0) x.b = .ok (s0 0) es := by
  rw [nodeI_eq, if_neg (by omega), if_neg (by omega), if_neg (by omega), if_neg (by omega), if_neg (by omega), if_pos h] at he
  cases hr : listI (s0 0) x.b with
  | no a e => rw [hr] at he; cases he
  | ok s1 e1 =>
    rw [hr, IR.next_ok] at he
    split at he
    · rename_i hq
      injection he with h1 h2
      rw [← h1, ← h2, eqH_eq hq]
      exact ⟨rfl, rfl⟩
    · cases he
theorem mainN_cons (x : NT) (l : List NT) : mainN (x :: l) = if x.k = 6 then mainN l else x :: mainN l := by
  unfold mainN isDef
  by_cases h : x.k = 6
  · rw [if_pos h, List.filter_cons_of_neg (by simp [h])]
  · rw [if_neg h, List.filter_cons_of_pos (by simp [h])]
theorem parts_list : ∀ (l : List NT) (s t : HS) (es : List Nat), (∀ x, x ∈ l → Wk false x) → listI s l = .ok t es →
    listI s (mainN l) = .ok t (mainE l es) ∧ ∀ d, d ∈ dfs l es → listI (s0 0) d.1.b = .ok (s0 0) d.2
  | [], s, t, es, _, h => by
    rw [listI_nil] at h
    injection h with h1 h2
    subst h1 h2
    exact ⟨by show listI s [] = _; rw [listI_nil]; rfl, fun d hd => by cases hd⟩
  | x :: l, s, t, es, hw, h => by
    rw [listI_cons] at h
    cases hr : nodeI s x with
    | no a e => rw [hr] at h; cases h
    | ok s1 e1 =>
      rw [hr, IR.next_ok] at h
      cases hl : listI s1 l with
      | no a e => rw [hl] at h; cases h
      | ok s2 e2 =>
        rw [hl, IR.next_ok] at h
        injection h with h1 h2
        subst h1 h2
        have hlen := nodeI_ln17 x false (hw x (by simp)) s s1 e1 hr
        have ht : (e1 ++ e2).take (prf x) = e1 := by rw [← hlen]; exact List.take_left
        have hd : (e1 ++ e2).drop (prf x) = e2 := by rw [← hlen]; exact List.drop_left
        obtain ⟨g1, g2⟩ := parts_list l s1 s2 e2 (fun y hy => hw y (by simp [hy])) hl
        rw [mainN_cons]
        unfold mainE dfs
        rw [ht, hd]
        by_cases hk : x.k = 6
        · rw [if_pos hk, if_pos hk, if_pos hk]
          obtain ⟨rfl, h3⟩ := nodeI_def hk hr
          refine ⟨g1, fun d hd => ?_⟩
          rcases List.mem_cons.1 hd with rfl | hd
          · exact h3
          · exact g2 d hd
        · rw [if_neg hk, if_neg hk, if_neg hk]
          refine ⟨?_, g2⟩
          rw [listI_cons, hr, IR.next_ok, g1, IR.next_ok]
theorem inferI_of {l : List NT} {es : List Nat} (h : listI (s0 0) l = .ok (s0 0) es) : inferI l = (es, 0, 0) := by
  unfold inferI
  rw [h]
  dsimp only
  rw [if_pos (eqH_self _)]
theorem of_inferI {l : List NT} {es : List Nat} {a : Int} (h : inferI l = (es, a, 0)) : listI (s0 0) l = .ok (s0 0) es := by
  unfold inferI at h
  cases hr : listI (s0 0) l with
  | no b e =>
    rw [hr] at h
    have h2 := listI_nz_of l (fun x _ => nodeI_nz x) (s0 0)
    rw [hr] at h2
    injection h with _ g
    injection g with _ g
    exact absurd g h2
  | ok s fs =>
    rw [hr] at h
    dsimp only at h
    split at h
    · rename_i hq
      injection h with g1 g2
      rw [← g1, eqH_eq hq]
    · injection h with _ g
      injection g with _ g
      cases g
/-- The main nodes and each Body by themselves have the escapers that they have in the whole. -/
theorem parts17 {l : List NT} (hw : ∀ x, x ∈ l → Wk false x) {es : List Nat} {a : Int} (h : inferI l = (es, a, 0)) :
    inferI (mainN l) = (mainE l es, 0, 0) ∧ ∀ d, d ∈ dfs l es → inferI d.1.b = (d.2, 0, 0) := by
  obtain ⟨h1, h2⟩ := parts_list l _ _ _ hw (of_inferI h)
  exact ⟨inferI_of h1, fun d hd => inferI_of (h2 d hd)⟩
/-! ### The code of the main nodes is that of the list -/
theorem listC_main (ad : ByteArray → Nat) : ∀ (l : List NT) (a : Nat) (es : List Nat), listC ad a es (mainN l) = listC ad a es l
  | [], a, es => rfl
  | x :: l, a, es => by
    rw [mainN_cons]
    by_cases hk : x.k = 6
    · rw [if_pos hk, listC_main ad l, listC_cons]
      unfold seqC
      rw [nodeC_eq, if_neg (by omega), if_neg (by omega), if_neg (by omega), if_neg (by omega), if_neg (by omega), if_neg (by omega)]
      simp
    · rw [if_neg hk, listC_cons, listC_cons]
      unfold seqC
      simp only [listC_main ad l]
theorem sizs_main : ∀ l : List NT, sizs (mainN l) = sizs l
  | [] => rfl
  | x :: l => by
    rw [mainN_cons]
    by_cases hk : x.k = 6
    · rw [if_pos hk, sizs_main l, sizs_cons, siz_eq, if_neg (by omega), if_neg (by omega), if_neg (by omega), Nat.zero_add]
    · rw [if_neg hk, sizs_cons, sizs_cons, sizs_main l]
theorem prns_main : ∀ l : List NT, prns (mainN l) = prns l
  | [] => rfl
  | x :: l => by
    rw [mainN_cons]
    by_cases hk : x.k = 6
    · rw [if_pos hk, prns_main l, prns_cons, prn_eq, if_neg (by omega), if_neg (by omega), if_neg (by omega), Nat.zero_add]
    · rw [if_neg hk, prns_cons, prns_cons, prns_main l]
/-! ### The calls that are to be linked -/
/-- Index and name. -/
abbrev CK := Nat × ByteArray
mutual
def nodeK (a : Nat) : NT → List CK
  | .mk k _ s _ _ e _ _ b _ _ l =>
    if k = 2 then listK (a + 1) b ++ (if e = true then listK (a + 2 + sizs b) l else [])
    else if k = 3 then listK (a + 1) b
    else if k = 4 then [(a, s)]
    else []
def listK (a : Nat) : List NT → List CK
  | [] => []
  | x :: l => nodeK a x ++ listK (a + siz x) l
end
theorem nodeK_eq (a : Nat) (t : NT) : nodeK a t =
    if t.k = 2 then listK (a + 1) t.b ++ (if t.e = true then listK (a + 2 + sizs t.b) t.l else [])
    else if t.k = 3 then listK (a + 1) t.b
    else if t.k = 4 then [(a, t.s)]
    else [] := by
  cases t
  rw [nodeK]
  rfl
theorem listK_nil (a : Nat) : listK a [] = [] := by rw [listK]
theorem listK_cons (a : Nat) (x : NT) (l : List NT) : listK a (x :: l) = nodeK a x ++ listK (a + siz x) l := by rw [listK]
theorem listK_append : ∀ (l m : List NT) (a : Nat), listK a (l ++ m) = listK a l ++ listK (a + sizs l) m
  | [], m, a => by rw [List.nil_append, listK_nil, sizs_nil]; rfl
  | x :: l, m, a => by
    rw [List.cons_append, listK_cons, listK_cons, listK_append l m, sizs_cons, List.append_assoc, Nat.add_assoc]
theorem listK_take {l : List NT} {i : Nat} {x : NT} (h : l[i]? = some x) (a : Nat) : listK a (l.take (i + 1)) = listK a (l.take i) ++ nodeK (a + sizs (l.take i)) x := by
  rw [take_at17 h, listK_append, listK_cons, listK_nil, List.append_nil]
theorem sizs_take {l : List NT} {i : Nat} {x : NT} (h : l[i]? = some x) : sizs (l.take (i + 1)) = sizs (l.take i) + siz x := by
  rw [take_at17 h, sizs_append, sizs_cons, sizs_nil, Nat.add_zero]
theorem prns_take {l : List NT} {i : Nat} {x : NT} (h : l[i]? = some x) : prns (l.take (i + 1)) = prns (l.take i) + prn x := by
  rw [take_at17 h, prns_append, prns_cons, prns_nil, Nat.add_zero]
theorem sizs_take_le (l : List NT) (i : Nat) : sizs (l.take i) ≤ sizs l := by
  conv => rhs; rw [← List.take_append_drop i l]
  rw [sizs_append]
  omega
theorem prns_take_le (l : List NT) (i : Nat) : prns (l.take i) ≤ prns l := by
  conv => rhs; rw [← List.take_append_drop i l]
  rw [prns_append]
  omega
/-- As many as there are instructions at most. -/
theorem listK_len_of : ∀ (l : List NT), (∀ x, x ∈ l → ∀ a, (nodeK a x).length ≤ siz x) → ∀ a, (listK a l).length ≤ sizs l
  | [], _, a => by rw [listK_nil, sizs_nil]; exact Nat.le_refl _
  | x :: l, h, a => by
    have := h x (by simp) a
    have := listK_len_of l (fun y hy => h y (by simp [hy])) (a + siz x)
    rw [listK_cons, sizs_cons, List.length_append]
    omega
theorem nodeK_len (t : NT) : ∀ a, (nodeK a t).length ≤ siz t := by
  refine ind (M := fun t => ∀ a, (nodeK a t).length ≤ siz t) (fun t hb hl a => ?_) t
  have h1 := listK_len_of t.b hb (a + 1)
  have h2 := listK_len_of t.l hl (a + 2 + sizs t.b)
  rw [nodeK_eq, siz_eq]
  split
  · rw [List.length_append]
    split
    · omega
    · simp; omega
  split
  · omega
  split
  · rename_i h4
    rw [if_pos (by omega)]
    simp
  · simp
theorem listK_len (l : List NT) (a : Nat) : (listK a l).length ≤ sizs l := listK_len_of l (fun x _ => nodeK_len x) a
/-! ### Linking -/
def stT (L : List IN) (i t : Nat) : List IN := L.modify i fun x => { x with t := t }
def lnk (ad : ByteArray → Nat) (L : List IN) : List CK → List IN
  | [] => L
  | k :: r => lnk ad (stT L k.1 (ad k.2)) r
theorem stT_len (L : List IN) (i t : Nat) : (stT L i t).length = L.length := by unfold stT; rw [List.length_modify]
theorem lnk_len (ad : ByteArray → Nat) : ∀ (ks : List CK) (L : List IN), (lnk ad L ks).length = L.length
  | [], L => rfl
  | k :: r, L => by rw [lnk, lnk_len ad r, stT_len]
theorem lnk_append (ad : ByteArray → Nat) : ∀ (ks ms : List CK) (L : List IN), lnk ad L (ks ++ ms) = lnk ad (lnk ad L ks) ms
  | [], ms, L => rfl
  | k :: r, ms, L => by rw [List.cons_append, lnk, lnk, lnk_append ad r]
theorem lnk_take (ad : ByteArray → Nat) {ks : List CK} {i : Nat} {k : CK} (h : ks[i]? = some k) (L : List IN) : lnk ad L (ks.take (i + 1)) = stT (lnk ad L (ks.take i)) k.1 (ad k.2) := by
  rw [List.take_add_one, h, lnk_append]
  rfl
theorem stT_at (P S : List IN) (x : IN) {i : Nat} (h : i = P.length) (t : Nat) : stT (P ++ x :: S) i t = P ++ { x with t := t } :: S := by
  subst h
  unfold stT
  induction P with
  | nil => rfl
  | cons p P ih => exact congrArg (p :: ·) ih
/-- What is linked in a stretch of the code. -/
def LnkOk (ad : ByteArray → Nat) (a : Nat) (c d : List IN) (ks : List CK) : Prop := ∀ P S : List IN, P.length = a → lnk ad (P ++ (c ++ S)) ks = P ++ (d ++ S)
theorem LnkOk.nil (ad : ByteArray → Nat) (a : Nat) (c : List IN) : LnkOk ad a c c [] := fun P S h => rfl
theorem LnkOk.append {ad : ByteArray → Nat} {a : Nat} {c d c2 d2 : List IN} {ks ms : List CK} (hl : d.length = c.length) (h1 : LnkOk ad a c d ks) (h2 : LnkOk ad (a + c.length) c2 d2 ms) : LnkOk ad a (c ++ c2) (d ++ d2) (ks ++ ms) := by
  intro P S h
  rw [lnk_append, List.append_assoc, h1 P (c2 ++ S) h]
  have := h2 (P ++ d) S (by rw [List.length_append, h, hl])
  rw [List.append_assoc, List.append_assoc] at this
  rw [this, List.append_assoc]
theorem LnkOk.front {ad : ByteArray → Nat} {a : Nat} {c d : List IN} {ks : List CK} (x : IN) (h : LnkOk ad (a + 1) c d ks) : LnkOk ad a (x :: c) (x :: d) ks := by
  intro P S hP
  have := h (P ++ [x]) S (by rw [List.length_append, hP]; rfl)
  rw [List.append_assoc, List.append_assoc] at this
  exact this
theorem LnkOk.back {ad : ByteArray → Nat} {a : Nat} {c d : List IN} {ks : List CK} (s : List IN) (h : LnkOk ad a c d ks) : LnkOk ad a (c ++ s) (d ++ s) ks := by
  intro P S hP
  have := h P (s ++ S) hP
  rw [List.append_assoc, List.append_assoc]
  exact this
abbrev Z0 : ByteArray → Nat := fun _ => 0
theorem listC_es (ad ad2 : ByteArray → Nat) (a a2 : Nat) (es : List Nat) (l : List NT) : (listC ad a es l).2 = (listC ad2 a2 es l).2 := by rw [(listC_ok ad l a es).es, (listC_ok ad2 l a2 es).es]
theorem nodeC_es (ad ad2 : ByteArray → Nat) (a a2 : Nat) (es : List Nat) (x : NT) : (nodeC ad a es x).2 = (nodeC ad2 a2 es x).2 := by rw [(nodeC_ok ad x a es).es, (nodeC_ok ad2 x a2 es).es]
theorem listC_lnk_of (ad : ByteArray → Nat) (l : List NT) (h : ∀ x, x ∈ l → ∀ a es, LnkOk ad a (nodeC Z0 a es x).1 (nodeC ad a es x).1 (nodeK a x)) : ∀ a es, LnkOk ad a (listC Z0 a es l).1 (listC ad a es l).1 (listK a l) := by
  induction l with
  | nil => intro a es; rw [listC_nil, listC_nil, listK_nil]; exact .nil _ _ _
  | cons x l ih =>
    intro a es
    have l1 := (nodeC_ok Z0 x a es).len
    have l2 := (nodeC_ok ad x a es).len
    rw [listC_cons, listC_cons, listK_cons]
    unfold seqC
    dsimp only
    rw [nodeC_es Z0 ad a a es x, l1, l2]
    refine .append (by rw [l1, l2]) (h x (by simp) a es) ?_
    rw [l1]
    exact ih (fun y hy => h y (by simp [hy])) _ _
theorem nodeC_lnk (ad : ByteArray → Nat) (t : NT) : ∀ a es, LnkOk ad a (nodeC Z0 a es t).1 (nodeC ad a es t).1 (nodeK a t) := by
  refine ind (M := fun t => ∀ a es, LnkOk ad a (nodeC Z0 a es t).1 (nodeC ad a es t).1 (nodeK a t)) (fun t hb hl a es => ?_) t
  have HB := listC_lnk_of ad t.b hb (a + 1) es
  have l1 := (listC_ok Z0 t.b (a + 1) es).len
  have l2 := (listC_ok ad t.b (a + 1) es).len
  rw [nodeC_eq, nodeC_eq, nodeK_eq]
  by_cases h0 : t.k = 0
  · simp [h0]; exact .nil _ _ _
  by_cases h1 : t.k = 1
  · simp [h1]; exact .nil _ _ _
  by_cases h2 : t.k = 2
  · rw [if_neg h0, if_neg h1, if_pos h2, if_neg h0, if_neg h1, if_pos h2, if_pos h2]
    unfold ifC
    by_cases he : t.e = true
    · rw [if_pos he, if_pos he, if_pos he]
      dsimp only
      rw [listC_es Z0 ad (a + 1) (a + 1) es t.b, l1, l2]
      have HL := listC_lnk_of ad t.l hl (a + 2 + sizs t.b) (listC ad (a + 1) es t.b).2
      have m1 := (listC_ok Z0 t.l (a + 2 + sizs t.b) (listC ad (a + 1) es t.b).2).len
      have m2 := (listC_ok ad t.l (a + 2 + sizs t.b) (listC ad (a + 1) es t.b).2).len
      rw [m1, m2]
      refine .front _ (.append (by rw [l1, l2]) HB (.front _ ?_))
      rw [l1, show a + 1 + sizs t.b + 1 = a + 2 + sizs t.b by omega]
      exact HL
    · rw [if_neg he, if_neg he, if_neg he, List.append_nil]
      dsimp only
      rw [l1, l2]
      exact .front _ HB
  by_cases h3 : t.k = 3
  · rw [if_neg h0, if_neg h1, if_neg h2, if_pos h3, if_neg h0, if_neg h1, if_neg h2, if_pos h3, if_neg h2, if_pos h3]
    unfold rangeC
    dsimp only
    rw [l1, l2]
    exact .front _ (.back _ HB)
  by_cases h4 : t.k = 4
  · rw [if_neg h0, if_neg h1, if_neg h2, if_neg h3, if_pos h4, if_neg h0, if_neg h1, if_neg h2, if_neg h3, if_pos h4, if_neg h2, if_neg h3, if_pos h4]
    intro P S h
    show stT (P ++ _ :: S) a (ad t.s) = _
    rw [stT_at P S _ h.symm]
    rfl
  by_cases h5 : t.k = 5
  · simp [h5]; exact .nil _ _ _
  · simp [h0, h1, h2, h3, h4, h5]; exact .nil _ _ _
theorem listC_lnk (ad : ByteArray → Nat) (l : List NT) (a : Nat) (es : List Nat) : LnkOk ad a (listC Z0 a es l).1 (listC ad a es l).1 (listK a l) := listC_lnk_of ad l (fun x _ => nodeC_lnk ad x) a es
/-- The calls of the definitions' code. -/
def defsK : List (NT × List Nat) → Nat → List CK
  | [], _ => []
  | d :: r, a => listK a d.1.b ++ defsK r (a + sizs d.1.b + 1)
theorem defsC_lnk (ad : ByteArray → Nat) : ∀ (ds : List (NT × List Nat)) (a : Nat), LnkOk ad a (defsC Z0 ds a) (defsC ad ds a) (defsK ds a)
  | [], a => .nil _ _ _
  | d :: r, a => by
    have l1 := (listC_ok Z0 d.1.b a d.2).len
    have l2 := (listC_ok ad d.1.b a d.2).len
    unfold defsC defsK
    refine .append (by rw [l1, l2]) (listC_lnk ad d.1.b a d.2) (.front _ ?_)
    rw [l1]
    exact defsC_lnk ad r _
theorem defsK_snoc : ∀ (ds : List (NT × List Nat)) (d : NT × List Nat) (a : Nat), defsK (ds ++ [d]) a = defsK ds a ++ listK (a + dsz ds) d.1.b
  | [], d, a => by simp [defsK, dsz]
  | e :: r, d, a => by
    rw [List.cons_append]
    unfold defsK dsz
    rw [defsK_snoc r, List.append_assoc, show a + sizs e.1.b + 1 + dsz r = a + (sizs e.1.b + 1 + dsz r) by omega]
theorem defsK_len : ∀ (ds : List (NT × List Nat)) (a : Nat), (defsK ds a).length ≤ dsz ds
  | [], a => Nat.le_refl _
  | d :: r, a => by
    have := listK_len d.1.b a
    have := defsK_len r (a + sizs d.1.b + 1)
    unfold defsK dsz
    rw [List.length_append]
    omega
/-- The code before it is linked, and the calls. -/
def codeZ (l : List NT) (ds : List (NT × List Nat)) (es : List Nat) : List IN :=
  (listC Z0 0 es l).1 ++ ⟨9, eB, eB, false, 0, 0⟩ :: defsC Z0 ds (sizs l + 1)
def callsZ (l : List NT) (ds : List (NT × List Nat)) : List CK := listK 0 l ++ defsK ds (sizs l + 1)
theorem code_lnk (l : List NT) (es : List Nat) : lnk (adr (dfs l es) (sizs l + 1)) (codeZ (mainN l) (dfs l es) (mainE l es)) (callsZ (mainN l) (dfs l es)) = codeW l es := by
  have l1 := (listC_ok Z0 (mainN l) 0 (mainE l es)).len
  have l2 := (listC_ok (adr (dfs l es) (sizs l + 1)) (mainN l) 0 (mainE l es)).len
  unfold codeZ callsZ codeW
  rw [sizs_main] at l1 l2 ⊢
  have h := (listC_lnk (adr (dfs l es) (sizs l + 1)) (mainN l) 0 (mainE l es)).append (by rw [l1, l2]) (.front ⟨9, eB, eB, false, 0, 0⟩ (by rw [l1, Nat.zero_add]; exact defsC_lnk (adr (dfs l es) (sizs l + 1)) (dfs l es) (sizs l + 1)))
  have := h [] [] rfl
  rw [List.append_nil, List.append_nil, List.nil_append, List.nil_append] at this
  rw [this, listC_main]
/-! ### Where the definitions start, definition by definition -/
theorem adr_snoc : ∀ (ds : List (NT × List Nat)) (d : NT × List Nat) (a : Nat) (nm : ByteArray), nm ∉ nmsOf ds → adr (ds ++ [d]) a nm = if d.1.s = nm then a + dsz ds else 0
  | [], d, a, nm, _ => by simp [adr, dsz]
  | e :: r, d, a, nm, h => by
    have h1 : ¬ e.1.s = nm := fun g => h (by unfold nmsOf; rw [List.map_cons, g]; simp)
    have h2 : nm ∉ nmsOf r := fun g => h (by unfold nmsOf at g ⊢; rw [List.map_cons]; exact List.mem_cons_of_mem _ g)
    rw [List.cons_append]
    unfold adr dsz
    rw [if_neg h1, adr_snoc r d _ nm h2, show a + sizs e.1.b + 1 + dsz r = a + (sizs e.1.b + 1 + dsz r) by omega]
theorem adr_old : ∀ (ds : List (NT × List Nat)) (d : NT × List Nat) (a : Nat) (nm : ByteArray), nm ∈ nmsOf ds → adr (ds ++ [d]) a nm = adr ds a nm
  | [], d, a, nm, h => by cases h
  | e :: r, d, a, nm, h => by
    rw [List.cons_append]
    unfold adr
    by_cases h1 : e.1.s = nm
    · rw [if_pos h1, if_pos h1]
    · rw [if_neg h1, if_neg h1, adr_old r d _ nm (by
        unfold nmsOf at h ⊢
        rw [List.map_cons] at h
        rcases List.mem_cons.1 h with g | g
        · exact absurd g.symm h1
        · exact g)]
theorem adr_none : ∀ (ds : List (NT × List Nat)) (a : Nat) (nm : ByteArray), nm ∉ nmsOf ds → adr ds a nm = 0
  | [], _, _, _ => rfl
  | e :: r, a, nm, h => by
    unfold adr
    rw [if_neg (fun g => h (by unfold nmsOf; rw [List.map_cons, g]; simp)), adr_none r _ nm (fun g => h (by unfold nmsOf at g ⊢; rw [List.map_cons]; exact List.mem_cons_of_mem _ g))]
/-- What the map of the starts holds. -/
def startF (ds : List (NT × List Nat)) (a : Nat) (nm : ByteArray) : Option Value := if hasN (nmsOf ds) nm = true then some (.int .i64 (adr ds a nm : Nat)) else none
theorem startF_get (ds : List (NT × List Nat)) (a : Nat) (nm : ByteArray) : (startF ds a nm).getD (.int .i64 0) = .int .i64 (adr ds a nm : Nat) := by
  unfold startF
  split
  · rfl
  · rename_i h
    rw [adr_none ds a nm (fun g => h (hasN_iff.2 g))]
    rfl
theorem startF_snoc (ds : List (NT × List Nat)) (d : NT × List Nat) (a : Nat) (h : d.1.s ∉ nmsOf ds) (k : ByteArray) : (if k = d.1.s then some (Value.int .i64 (a + dsz ds : Nat)) else startF ds a k) = startF (ds ++ [d]) a k := by
  have hn : nmsOf (ds ++ [d]) = nmsOf ds ++ [d.1.s] := by unfold nmsOf; rw [List.map_append]; rfl
  unfold startF
  by_cases hk : k = d.1.s
  · subst hk
    rw [if_pos rfl, if_pos (hasN_iff.2 (by rw [hn]; simp)), adr_snoc ds d a _ h, if_pos rfl]
  · rw [if_neg hk]
    by_cases hm : hasN (nmsOf ds) k = true
    · rw [if_pos hm, if_pos (hasN_iff.2 (by rw [hn]; exact List.mem_append_left _ (hasN_iff.1 hm))), adr_old ds d a k (hasN_iff.1 hm)]
    · rw [if_neg hm, if_neg (fun g => by
        have := hasN_iff.1 g
        rw [hn] at this
        rcases List.mem_append.1 this with h1 | h1
        · exact hm (hasN_iff.2 h1)
        · exact hk (by simpa using h1))]
theorem nms_take {ds : List (NT × List Nat)} (h : (nmsOf ds).Nodup) {i : Nat} {d : NT × List Nat} (hd : ds[i]? = some d) : d.1.s ∉ nmsOf (ds.take i) := by
  intro hm
  have e : nmsOf ds = nmsOf (ds.take i) ++ (d.1.s :: nmsOf (ds.drop (i + 1))) := by
    have hi := (List.getElem?_eq_some_iff.1 hd).1
    have hx : ds[i] = d := (List.getElem?_eq_some_iff.1 hd).2
    conv => lhs; rw [← List.take_append_drop i ds, List.drop_eq_getElem_cons hi, hx]
    unfold nmsOf
    rw [List.map_append, List.map_cons]
  rw [e, List.nodup_append] at h
  exact h.2.2 _ hm _ (by simp) rfl
theorem dfs_cons (x : NT) (l : List NT) (es : List Nat) : dfs (x :: l) es = if x.k = 6 then (x, es.take (prf x)) :: dfs l (es.drop (prf x)) else dfs l (es.drop (prf x)) := by rw [dfs]
theorem dfs_append : ∀ (m r : List NT) (es : List Nat), dfs (m ++ r) es = dfs m es ++ dfs r (es.drop ((m.map prf).sum))
  | [], r, es => rfl
  | y :: m, r, es => by
    rw [List.cons_append, dfs_cons, dfs_cons, dfs_append m r, List.map_cons, List.sum_cons, List.drop_drop]
    split
    · rfl
    · rfl
/-- How many of the first i nodes are definitions. -/
theorem dfs_at {l : List NT} {i : Nat} {x : NT} (h : l[i]? = some x) (hk : x.k = 6) (es : List Nat) : (dfs l es)[(dfs (l.take i) es).length]? = some (x, (es.drop (pfx l i)).take (prf x)) := by
  have e : dfs l es = dfs (l.take (i + 1)) es ++ dfs (l.drop (i + 1)) (es.drop (((l.take (i + 1)).map prf).sum)) := by
    rw [← dfs_append, List.take_append_drop]
  rw [e, dfs_take h, if_pos hk, List.append_assoc, List.getElem?_append_right (Nat.le_refl _), Nat.sub_self]
  rfl
theorem dfs_pre (l : List NT) (i : Nat) (es : List Nat) : dfs (l.take i) es = (dfs l es).take (dfs (l.take i) es).length := by
  have ht : dfs l es = dfs (l.take i) es ++ dfs (l.drop i) (es.drop (((l.take i).map prf).sum)) := by rw [← dfs_append, List.take_append_drop]
  rw [ht, List.take_left]
end Go.Proofs.YtpcapmdfjmpdiaaGreatDoor

namespace Go.Proofs.YtpcapmdfjmpdiaaGreatDoor
open Go.RowKit Go.BigFrame NT
set_option linter.unusedVariables false
set_option linter.unusedSimpArgs false
set_option maxRecDepth 100000

/-- A call that is to be linked: its cells. -/
def ckcs (k : CK) : List Value := [.int .i64 (k.1 : Nat), .string k.2]
theorem ckcs_len (k : CK) : (ckcs k).length = 2 := rfl
theorem ckcs_one (k : CK) (u : Value) (h : u ∈ ckcs k) : u.oneCell' = true := by
  simp only [ckcs, List.mem_cons, List.not_mem_nil, or_false] at h
  rcases h with rfl | rfl <;> rfl
theorem info_call17 : (Tryz.prog.info? 107).map (fun i => (i.zero, i.size, i.bytes)) = some (some (.agg #[.int .i64 0, .string ByteArray.empty]), 2, 24) := by kernel_rfl
theorem cells_call17 : (Value.agg #[.int .i64 0, .string ByteArray.empty]).cells.size = 2 := by kernel_rfl
/-- What the assembler's cells hold. -/
structure AV where
  A : Option Addr
  c : Nat
  L : List IN
  E : Option Addr
  ce : Nat
  es : List Nat
  M : Nat
  K : Option Addr
  kc : Nat
  ks : List CK
abbrev AV.cs (v : AV) : List Value := [.slice v.A v.L.length v.c, .slice v.E v.es.length v.ce, .map (some v.M), .slice v.K v.ks.length v.kc]
/-- The assembler at block rr; Q holds of blocks that it never turns. -/
structure As (Q : Nat → Prop) (rr : Nat) (w : World) (v : AV) : Prop where
  blk : Blk w rr 104 v.cs
  code : KRow w 31 6 IN.cs v.A v.c v.L
  escs : RowAt w 3 v.E v.es.length v.ce (vin17 v.es)
  calls : KRow w 107 2 ckcs v.K v.kc v.ks
  fr : ∀ g, Q g → g < w.heap.size ∧ g ≠ rr ∧ g ∉ rowT v.A ∧ g ∉ rowT v.K
theorem krow_bel {α : Type} {f : α → List Value} {z : Nat} {w w' : World} {e : TypeId} {A : Option Addr} {c : Nat} {l : List α} (h : KRow w e z f A c l) (hb : Bel w w') : KRow w' e z f A c l := h.only (bel_only hb) (by simp)
theorem As.bel {Q : Nat → Prop} {rr : Nat} {w w' : World} {v : AV} (h : As Q rr w v) (hb : Bel w w') : As Q rr w' v :=
  ⟨h.blk.bel hb, krow_bel h.code hb, h.escs.only (bel_only hb) (by simp), krow_bel h.calls hb, fun g hg => ⟨Nat.lt_of_lt_of_le (h.fr g hg).1 hb.size, (h.fr g hg).2⟩⟩
/-- What an assembler may turn. -/
abbrev AV.T (v : AV) (rr : Nat) : List Nat := rr :: (rowT v.A ++ rowT v.K)
/-- What became of an assembler since a world. -/
structure Ev17 (Q : Nat → Prop) (rr : Nat) (w : World) (v0 : AV) (W : World) (v : AV) : Prop where
  st : As Q rr W v
  only : Only (v0.T rr) w W
  subA : ∀ k, k ∈ rowT v.A → k ∈ rowT v0.A ∨ w.heap.size ≤ k
  subK : ∀ k, k ∈ rowT v.K → k ∈ rowT v0.K ∨ w.heap.size ≤ k
theorem Ev17.refl {Q : Nat → Prop} {rr : Nat} {w : World} {v : AV} (h : As Q rr w v) : Ev17 Q rr w v w v := ⟨h, Only.refl _ _, fun k hk => .inl hk, fun k hk => .inl hk⟩
theorem Ev17.bel {Q : Nat → Prop} {rr : Nat} {w W W' : World} {v0 v : AV} (h : Ev17 Q rr w v0 W v) (hb : Bel W W') : Ev17 Q rr w v0 W' v := ⟨h.st.bel hb, h.only.join (bel_only hb) (by simp), h.subA, h.subK⟩
theorem Ev17.trans {Q : Nat → Prop} {rr : Nat} {w W W' : World} {v0 v v' : AV} (h : Ev17 Q rr w v0 W v) (h2 : Ev17 Q rr W v W' v') : Ev17 Q rr w v0 W' v' :=
  ⟨h2.st, h.only.join h2.only (fun i hi => by
    rcases List.mem_cons.1 hi with rfl | hi
    · exact .inl (by simp)
    · rcases List.mem_append.1 hi with hi | hi
      · exact (h.subA i hi).imp (fun h => by simp [h]) id
      · exact (h.subK i hi).imp (fun h => by simp [h]) id), fun k hk => by
    rcases h2.subA k hk with h1 | h1
    · exact h.subA k h1
    · exact .inr (Nat.le_trans h.only.size h1), fun k hk => by
    rcases h2.subK k hk with h1 | h1
    · exact h.subK k h1
    · exact .inr (Nat.le_trans h.only.size h1)⟩
theorem cell_only {S : List Nat} {w W : World} (h : Only S w W) {g : Nat} (h1 : g < w.heap.size) (h2 : g ∉ S) (p : Nat) : W.cell? ⟨g, p, none⟩ = w.cell? ⟨g, p, none⟩ := by
  have := h.block g h1 h2
  simp only [World.cell?, this]
/-- What the assembler never turns stays. -/
theorem Ev17.q {Q : Nat → Prop} {rr : Nat} {w W : World} {v0 v : AV} (h : Ev17 Q rr w v0 W v) (h0 : As Q rr w v0) : ∀ g p, Q g → W.cell? ⟨g, p, none⟩ = w.cell? ⟨g, p, none⟩ := fun g p hg => by
  obtain ⟨h1, h2, h3, h4⟩ := h0.fr g hg
  exact cell_only h.only h1 (by simp [h2, h3, h4]) p
theorem Ev17.row {Q : Nat → Prop} {rr : Nat} {w W : World} {v0 v : AV} (h : Ev17 Q rr w v0 W v) (h0 : As Q rr w v0) {A : Option Addr} {c : Nat} {l : List NT} (hr : Row w Q A c l) : Row W Q A c l := hr.same (fun _ h => h) (h.q h0)
theorem Ev17.in_ {Q : Nat → Prop} {rr : Nat} {w W : World} {v0 v : AV} (h : Ev17 Q rr w v0 W v) (h0 : As Q rr w v0) {x : NT} (hr : x.In w Q) : x.In W Q := hr.same (fun _ h => h) (h.q h0)
/-- What the parts are. -/
structure St17 (v : AV) (L : List IN) (es : List Nat) (ks : List CK) (M : Nat) : Prop where
  L : v.L = L
  es : v.es = es
  ks : v.ks = ks
  M : v.M = M
/-- A function of the assembler has no result but what the assembler became. -/
def AsP (Q : Nat → Prop) (rr : Nat) (w : World) (v0 : AV) (r : Value) (L : List IN) (es : List Nat) (ks : List CK) (e : Ending) (w' : World) : Prop :=
  e = .returned r ∧ ∃ v, Hid (Ev17 Q rr w v0 w' v) ∧ Hid (St17 v L es ks v0.M)
/-- Blocks of other types are none of the assembler's. -/
theorem As.ne {Q : Nat → Prop} {rr : Nat} {w : World} {v : AV} (h : As Q rr w v) {g : Nat} {t : TypeId} {cs : List Value} (hB : Blk w g t cs) (h1 : t ≠ 104) (h2 : t ≠ 31) (h3 : t ≠ 107) : g ∉ v.T rr := by
  rw [List.mem_cons, List.mem_append, not_or, not_or]
  refine ⟨?_, ?_, ?_⟩
  · rintro rfl
    exact hB.ne_ h.blk h1 rfl
  · intro hk
    obtain ⟨ad, ha, hg⟩ := mem_rowT.1 hk
    obtain ⟨g', o, cur, rfl, hb, _⟩ := RowK.some_ h.code ad ha
    simp at hg
    subst hg
    exact hB.ne_ hb h2 rfl
  · intro hk
    obtain ⟨ad, ha, hg⟩ := mem_rowT.1 hk
    obtain ⟨g', o, cur, rfl, hb, _⟩ := RowK.some_ h.calls ad ha
    simp at hg
    subst hg
    exact hB.ne_ hb h3 rfl
theorem As.keep {Q : Nat → Prop} {rr : Nat} {w W : World} {v0 v : AV} (h0 : As Q rr w v0) (h : Ev17 Q rr w v0 W v) {g : Nat} {t : TypeId} {cs : List Value} (hB : Blk w g t cs) (h1 : t ≠ 104) (h2 : t ≠ 31) (h3 : t ≠ 107) : Blk W g t cs := hB.only h.only (h0.ne hB h1 h2 h3)
theorem As.ne_ra {Q : Nat → Prop} {rr : Nat} {w : World} {v : AV} (h : As Q rr w v) : rr ∉ rowT v.A := fun hk => by
  obtain ⟨ad, ha, hg⟩ := mem_rowT.1 hk
  obtain ⟨g', o, cur, rfl, hb, _⟩ := RowK.some_ h.code ad ha
  simp at hg
  subst hg
  exact h.blk.ne_ hb (by decide) rfl
theorem As.ne_rk {Q : Nat → Prop} {rr : Nat} {w : World} {v : AV} (h : As Q rr w v) : rr ∉ rowT v.K := fun hk => by
  obtain ⟨ad, ha, hg⟩ := mem_rowT.1 hk
  obtain ⟨g', o, cur, rfl, hb, _⟩ := RowK.some_ h.calls ad ha
  simp at hg
  subst hg
  exact h.blk.ne_ hb (by decide) rfl
theorem As.ne_ak {Q : Nat → Prop} {rr : Nat} {w : World} {v : AV} (h : As Q rr w v) : ∀ k, k ∈ rowT v.K → k ∉ rowT v.A := fun k hk hk2 => by
  obtain ⟨ad, ha, hg⟩ := mem_rowT.1 hk
  obtain ⟨g', o, cur, rfl, hb, _⟩ := RowK.some_ h.calls ad ha
  obtain ⟨ad2, ha2, hg2⟩ := mem_rowT.1 hk2
  obtain ⟨g2, o2, cur2, rfl, hb2, _⟩ := RowK.some_ h.code ad2 ha2
  simp at hg hg2
  subst hg hg2
  exact hb.ne_ hb2 (by decide) rfl
theorem As.ne_ea {Q : Nat → Prop} {rr : Nat} {w : World} {v : AV} (h : As Q rr w v) : ∀ k, k ∈ rowT v.E → k ∉ v.T rr := fun k hk => by
  obtain ⟨ad, ha, hg⟩ := mem_rowT.1 hk
  obtain ⟨g', o, cur, rfl, hb, _⟩ := h.escs.some_ ad ha
  simp at hg
  subst hg
  exact h.ne hb (by decide) (by decide) (by decide)
/-- Instructions appended, and the assembler holds them. -/
theorem As.push {Q : Nat → Prop} {rr : Nat} {w w6 : World} {v : AV} (h : As Q rr w v) {A' : Option Addr} {c' N : Nat} {m : List IN} (hR : KRow w6 31 6 IN.cs A' c' (v.L ++ m)) (hN : N = (v.L ++ m).length) (hO : Only (rowT v.A) w w6) (hK : ∀ k, k ∈ rowT A' → k ∈ rowT v.A ∨ k = w.heap.size) :
    Ev17 Q rr w v (w6.setCell ⟨rr, 0, none⟩ (.slice A' N c')) { v with A := A', c := c', L := v.L ++ m } := by
  subst hN
  have hX : Blk w6 rr 104 v.cs := h.blk.only hO h.ne_ra
  have hO7 : Only [rr] w6 (w6.setCell ⟨rr, 0, none⟩ (.slice A' (v.L ++ m).length c')) := (Only.refl _ _).setCell (.inl (by simp)) _
  have hrl := h.blk.lt
  have hK' : ∀ k, k ∈ rowT A' → k ∈ rowT v.A ∨ w.heap.size ≤ k := fun k hk => (hK k hk).imp id (fun e => by omega)
  have hrA : rr ∉ rowT A' := fun hk => by
    rcases hK rr hk with g | g
    · exact h.ne_ra g
    · omega
  refine ⟨⟨?_, ?_, ?_, ?_, fun g hg => ?_⟩, ?_, hK', fun k hk => .inl hk⟩
  · exact hX.set_ 0 (.slice A' (v.L ++ m).length c')
  · exact hR.only hO7 (fun k hk hm => by rw [List.mem_singleton] at hm; subst hm; exact hrA hk)
  · refine (h.escs.only hO (fun k hk hm => h.ne_ea k hk (by simp [hm]))).only hO7 (fun k hk hm => ?_)
    rw [List.mem_singleton] at hm
    subst hm
    exact h.ne_ea k hk (by simp)
  · refine (h.calls.only hO h.ne_ak).only hO7 (fun k hk hm => ?_)
    rw [List.mem_singleton] at hm
    subst hm
    exact h.ne_rk hk
  · obtain ⟨g1, g2, g3, g4⟩ := h.fr g hg
    refine ⟨by have := hO.size; have := hO7.size; omega, g2, fun hk => ?_, g4⟩
    rcases hK g hk with e | e
    · exact g3 e
    · omega
  · refine (hO.more (T := v.T rr) (fun k hk => by simp [hk])).setCell (.inl (by simp)) _
section
variable {ops : Array Oper} {Q : Exit → Act → World → Prop}
theorem region_insAppend {T : List Nat} (k : Nat) {listed : Array Bool} {fuel : Nat} {a : Act} {w : World} {o : Oper} (hr : Region.ready .any ops listed = [k])
    (ho : ops[k]? = some o) (hw : Region.wanted o (yielded ops a.tmps) = true) (s x : Operand) (hop : o.op = .call { callee := .builtin .append, args := #[s, x], argTypes := #[23, 23] })
    (A : Option Addr) (n c : Nat) (l : List IN) (hn : l.length = n) (hs : a.eval s = .slice A n c) (hA : KRow w 31 6 IN.cs A c l) (X : Option Addr) (d : Nat) (m : List IN) (j : Nat) (hj : m.length = j) (hx : a.eval x = .slice X j d) (hX : Src w 6 IN.cs X m)
    (hle : n + j ≤ 100000) (hT : ∀ g, g ∈ rowT A → g ∈ T)
    (h : ∀ A' c' w', Hid (KRow w' 31 6 IN.cs A' c' (l ++ m)) → Hid (Only (rowT A) w w') → Hid (∀ k, k ∈ rowT A' → k ∈ rowT A ∨ k = w.heap.size) →
      wpAnyH Tryz.prog .any ops Q (Only T w') fuel (listed.setIfInBounds k true) (a.put o.dst (.slice A' (n + j) c')) w') :
    wpAnyH Tryz.prog .any ops Q (Only T w) (fuel + 1) listed a w := by
  obtain ⟨i0, hi, hz, hsize, hby⟩ := info_parts info_ins17
  subst hn hj
  obtain ⟨A', c', w', hrun, h2, h3, h4⟩ := rowK_append (P := Tryz.prog) o.type Tryz.underlying23 hi hz hsize hby cells_ins17 (by decide) hA d (flat_length IN.cs_len m) hX (fun u hu => by obtain ⟨y, _, hy⟩ := flat_mem hu; exact IN.cs_one y u hy) (by unfold maxLen; omega) (by omega)
  refine region_make k hr ho hw (exec_append hop hs hx hrun) (h3.more hT) (h A' c' w' (Lib.hid ?_) (Lib.hid h3) (Lib.hid h4))
  unfold KRow
  rw [flat_append, List.length_append]
  exact h2
end
section
variable {P : Program} {ops : Array Oper} {Q : Exit → Act → World → Prop}
/-- Two may come up: the one only reads, the other makes a value; both orders lead to the same. -/
theorem region_two {T : List Nat} (p q : Nat) {listed : Array Bool} {fuel : Nat} {a : Act} {w w1 : World} {op oq : Oper} {v u : Value} (hr : Region.ready .any ops listed = [p, q]) (hrp : Region.ready .any ops (listed.setIfInBounds p true) = [q]) (hrq : Region.ready .any ops (listed.setIfInBounds q true) = [p])
    (hop : ops[p]? = some op) (hoq : ops[q]? = some oq) (hwp : Region.wanted op (yielded ops a.tmps) = true) (hwq : Region.wanted oq (yielded ops a.tmps) = true) (hwq2 : Region.wanted oq (yielded ops (a.put op.dst v).tmps) = true) (hwp2 : Region.wanted op (yielded ops (a.put oq.dst u).tmps) = true)
    (hp : (execOp a.eval op).run P w = .ok (.value v) w) (hq : (execOp a.eval oq).run P w = .ok (.value u) w1) (hq2 : (execOp (a.put op.dst v).eval oq).run P w = .ok (.value u) w1) (hp2 : (execOp (a.put oq.dst u).eval op).run P w1 = .ok (.value v) w1) (hO : Only T w w1)
    (hl : (listed.setIfInBounds q true).setIfInBounds p true = (listed.setIfInBounds p true).setIfInBounds q true) (ha : (a.put oq.dst u).put op.dst v = (a.put op.dst v).put oq.dst u)
    (h : wpAnyH P .any ops Q (Only T w1) fuel ((listed.setIfInBounds p true).setIfInBounds q true) ((a.put op.dst v).put oq.dst u) w1) : wpAnyH P .any ops Q (Only T w) (fuel + 2) listed a w := by
  refine wpAnyH_all hr (by simp) (fun i hi => ?_)
  simp only [List.mem_cons, List.not_mem_nil, or_false] at hi
  rcases hi with rfl | rfl
  · exact op_make hop hwp hp (Only.refl _ _) (region_make q hrp hoq hwq2 hq2 hO h)
  · exact op_make hoq hwq hq hO (region_make p hrq hop hwp2 hp2 (Only.refl _ _) (by rw [hl, ha]; exact h))
end
abbrev iV (x : IN) : Value := .agg #[.int .i64 (x.o : Nat), .string x.s, .string x.p, .bool x.h, .int .i64 (x.e : Nat), .int .i64 (x.t : Nat)]
abbrev iO (x : IN) : Obj := .cells #[.int .i64 (x.o : Nat), .string x.s, .string x.p, .bool x.h, .int .i64 (x.e : Nat), .int .i64 (x.t : Nat)] 31
set_option maxHeartbeats 6400000 in
theorem add_c {Q : Nat → Prop} {rr : Nat} {w : World} {v : AV} (h : As Q rr w v) (x : IN) (hle : v.L.length + 1 ≤ 100000) :
    Calls Tryz.prog 67 #[.pointer (some ⟨rr, 0, none⟩), iV x] w (AsP Q rr w v (.int .i64 (v.L.length : Nat)) (v.L ++ [x]) v.es v.ks) := by
  obtain ⟨n, hn⟩ : ∃ n, n = v.L.length := ⟨_, rfl⟩
  have HH := Lib.hid h
  have hrl := h.blk.lt
  have HN := Lib.hid hn
  rw [← hn] at hle ⊢
  clear h hn
  go_enter Tryz.func67, Tryz.ntmps67
  go_wp2_with fail
  obtain ⟨W, hW⟩ : ∃ W, W = (w.alloc (iO x)).drew := ⟨_, rfl⟩
  have HB := Lib.hid (show Bel w W by rw [hW]; exact (Bel.alloc w _).trans (Bel.drew16 _))
  have HX := Lib.hid (show Blk W w.heap.size 31 x.cs by rw [hW]; exact (Blk.new w 31 x.cs).drew)
  have HSZ := Lib.hid (show W.heap.size = w.heap.size + 1 by rw [hW]; show (w.alloc _).heap.size = _; simp)
  have HA := Lib.hid (HH.out.bel HB.out)
  have HNX := Lib.hid (show w.heap.size ∉ rr :: rowT v.A by
    rw [List.mem_cons, not_or]
    exact ⟨by omega, fun hk => Nat.lt_irrefl _ (HH.out.code.lt _ hk)⟩)
  refine region_begin (T := rr :: rowT v.A) (by kernel_rfl) ?_
  rw [show (World.drew _) = W from hW.symm]
  clear hW
  have x0 : ∀ X : Later (rr :: rowT v.A) W, X.w.cell? ⟨w.heap.size, 0, none⟩ = some (.int .i64 (x.o : Nat)) := fun X => (HX.out.only X.h HNX.out).cell 0
  have x1 : ∀ X : Later (rr :: rowT v.A) W, X.w.cell? ⟨w.heap.size, 1, none⟩ = some (.string x.s) := fun X => (HX.out.only X.h HNX.out).cell 1
  have x2 : ∀ X : Later (rr :: rowT v.A) W, X.w.cell? ⟨w.heap.size, 2, none⟩ = some (.string x.p) := fun X => (HX.out.only X.h HNX.out).cell 2
  have x3 : ∀ X : Later (rr :: rowT v.A) W, X.w.cell? ⟨w.heap.size, 3, none⟩ = some (.bool x.h) := fun X => (HX.out.only X.h HNX.out).cell 3
  have x4 : ∀ X : Later (rr :: rowT v.A) W, X.w.cell? ⟨w.heap.size, 4, none⟩ = some (.int .i64 (x.e : Nat)) := fun X => (HX.out.only X.h HNX.out).cell 4
  have x5 : ∀ X : Later (rr :: rowT v.A) W, X.w.cell? ⟨w.heap.size, 5, none⟩ = some (.int .i64 (x.t : Nat)) := fun X => (HX.out.only X.h HNX.out).cell 5
  refine region_seg [true, true, true, true, false, true] 6 (by kernel_rfl) (by kernel_rfl) (by kernel_rfl) rfl (fun _ _ d _ _ h => by cases d <;> exact h) ?_
  repeat (first | with_reducible refine wpMask_pass ?_ | (refine wpMask_want (by rfl) (fun K hK => ?_); go_big_quiet_op; refine hK _ ?_; clear hK K))
  with_reducible refine wpMask_nil ?_
  clear x0 x1 x2 x3 x4 x5
  have c0 := HA.out.blk.cell 0
  simp only [List.getElem?_cons_zero] at c0
  rw [← HN.out] at c0
  have HA2 := Lib.hid (HA.out.bel (Bel.alloc W (iO x)))
  have c1 := HA2.out.blk.cell 0
  simp only [List.getElem?_cons_zero] at c1
  rw [← HN.out] at c1
  refine region_two 4 6 (v := .slice v.A n v.c) (u := .slice (some ⟨W.heap.size, 0, none⟩) 1 1) (w1 := W.alloc (iO x)) (by kernel_rfl) (by kernel_rfl) (by kernel_rfl) rfl rfl (by rfl) (by rfl) (by rfl) (by rfl) (by go_simp) (by go_simp) (by go_simp) (by go_simp) ((Only.refl _ _).alloc _) (by kernel_rfl) (by rfl) ?_
  simp only [List.getElem_toArray, List.getElem_cons_zero, List.getElem_cons_succ, Act.put, List.setIfInBounds_toArray, List.set_cons_zero, List.set_cons_succ]
  clear c0 c1
  have HS := Lib.hid (show Src (W.alloc (iO x)) 6 IN.cs (some ⟨W.heap.size, 0, none⟩) [x] from src_blk (f := IN.cs) (z := 6) (m := [x]) (Blk.new W 31 x.cs) (by rw [flat_one]))
  refine region_insAppend 7 (by kernel_rfl) rfl (by rfl) (.tmp 9) (.tmp 11) rfl v.A n v.c v.L HN.out.symm rfl HA2.out.code (some ⟨W.heap.size, 0, none⟩) 1 [x] 1 rfl rfl HS.out hle (fun g hg => List.mem_cons_of_mem _ hg) ?_
  intro A' c' W4 HR4 HO4 HK4
  simp only [List.getElem_toArray, List.getElem_cons_zero, List.getElem_cons_succ, Act.put, List.setIfInBounds_toArray, List.set_cons_zero, List.set_cons_succ]
  refine region_seg [false, false, false, false, false, false, false, false, true, true] 1 (by kernel_rfl) (by kernel_rfl) (by kernel_rfl) rfl (fun _ _ d _ _ h => by cases d <;> exact h) ?_
  repeat (first | with_reducible refine wpMask_pass ?_ | (refine wpMask_want (by rfl) (fun K hK => ?_); go_big_quiet_op; refine hK _ ?_; clear hK K))
  with_reducible refine wpMask_nil ?_
  have HX4 := Lib.hid (show Blk W4 rr 104 v.cs from HA2.out.blk.only HO4.out HA2.out.ne_ra)
  have c0 := HX4.out.cell 0
  have f0 := HX4.out.free 0
  simp only [List.getElem?_cons_zero] at c0
  refine region_store 10 (w1 := W4.setCell ⟨rr, 0, none⟩ (.slice A' (n + 1) c')) (by kernel_rfl) rfl (by rfl) (by go_simp) ((Only.refl _ _).setCell (.inl (by simp)) _) ?_
  simp only [List.getElem_toArray, List.getElem_cons_zero, List.getElem_cons_succ, Act.put, List.setIfInBounds_toArray, List.set_cons_zero, List.set_cons_succ]
  refine region_end (by kernel_rfl) ?_
  clear c0 f0
  have HE := Lib.hid (((Ev17.refl HH.out).bel (HB.out.trans (Bel.alloc W (iO x)))).trans (As.push HA2.out (N := n + 1) HR4.out (by rw [List.length_append, ← HN.out]; rfl) HO4.out HK4.out))
  have c5 := HE.out.st.blk.cell 0
  simp only [List.getElem?_cons_zero, List.length_append, List.length_cons, List.length_nil] at c5
  rw [← HN.out] at c5
  have e5 : ((n : Int) + 1) - 1 = n := by omega
  have e6 : IntKind.i64.wrap (((n : Int) + 1) - 1) = n := (IntWalk.i64_in _ (by omega)).trans (by omega)
  go_wp2_with fail
  go_ret
  exact ⟨rfl, _, HE, Lib.hid ⟨rfl, rfl, rfl, rfl⟩⟩
end Go.Proofs.YtpcapmdfjmpdiaaGreatDoor

namespace Go.Proofs.YtpcapmdfjmpdiaaGreatDoor
open Go.RowKit Go.BigFrame Go.Maps NT
set_option linter.unusedVariables false
set_option linter.unusedSimpArgs false

/-- A row of strings of the call's own. -/
structure SnAt (w wr : World) (A : Option Addr) (q c : Nat) (F : List ByteArray) : Prop where
  row : KRow wr 9 1 fS14 A c F
  len : F.length = q
  fresh : ∀ k, k ∈ rowT A → w.heap.size ≤ k
  bel : Bel w wr
theorem SnAt.later {w wr w2 : World} {A : Option Addr} {q c : Nat} {F : List ByteArray} (h : SnAt w wr A q c F) (hb : Bel wr w2) : SnAt w w2 A q c F :=
  ⟨h.row.only (bel_only hb) (by simp), h.len, h.fresh, h.bel.trans hb⟩
theorem zeroBool14 (w : World) : (zeroValue 4).run Tryz.prog w = .ok (.bool false) w := by kernel_rfl
section
variable {w : World} {ops : Array Oper} {rest : List Oper} {o : Oper} {a : Act} {Q : Exit → Act → World → Prop}
theorem wp_lenF (hgd : o.guard = none) (m : Operand) (t : TypeId) (hop : o.op = Op.call { callee := Callee.builtin Builtin.len, args := #[m], argTypes := #[t] }) (e : TypeId) (ht : Tryz.prog.underlying t = some (.map 9 e))
    (M n : Nat) (F : List ByteArray) (hm : a.eval m = .map (some M)) (h : SMap w M n (fF F)) (hn : F.Nodup) (k : Nat) (hk : F.length = k)
    (hK : wpList Tryz.prog ops Q rest (a.put o.dst (.int .i64 k)) w) : wpList Tryz.prog ops Q (o :: rest) a w := by
  obtain ⟨D, hown, hp⟩ := h.perm hn
  have hsz : Maps.size D = k := by rw [size_strKeys, hp.length_eq, List.length_map, hk]
  rw [← hsz] at hK
  exact wpList_len_own _ hgd m t hop _ e ht RVal M n D hm hown hK
end
theorem fF_bool (F : List ByteArray) (k : ByteArray) : (fF F k).getD (.bool false) = .bool (hasN F k) := by
  unfold fF
  cases hasN F k <;> rfl
theorem in_s14 {w : World} {Q : Nat → Prop} {x : NT} (h : x.In w Q) : x.s.size ≤ maxLen := by
  cases h with
  | mk _ _ _ hs _ _ _ _ _ => unfold reachBytes at hs; unfold maxLen; omega
theorem callN_in {w : World} {Q : Nat → Prop} (t : NT) : t.In w Q → ∀ x, x ∈ callN t → x.In w Q := by
  refine NT.ind (M := fun t => t.In w Q → ∀ x, x ∈ callN t → x.In w Q) (fun t h1 h2 ht => ?_) t
  have key : ∀ l : List NT, (∀ y, y ∈ l → y.In w Q) → (∀ y, y ∈ l → y.In w Q → ∀ x, x ∈ callN y → x.In w Q) → ∀ x, x ∈ callNs l → x.In w Q := by
    intro l
    induction l with
    | nil => intro _ _ x hx; rw [callNs_nil] at hx; cases hx
    | cons y l ih =>
      intro hi hk x hx
      rw [callNs_cons] at hx
      rcases List.mem_append.1 hx with h | h
      · exact hk y (by simp) (hi y (by simp)) x h
      · exact ih (fun z hz => hi z (by simp [hz])) (fun z hz => hk z (by simp [hz])) x h
  intro x hx
  rw [callN_eq] at hx
  rcases List.mem_append.1 hx with h | h
  · split at h
    · rw [List.mem_singleton] at h; subst h; exact ht
    · cases h
  · rcases List.mem_append.1 h with h | h
    · exact key _ ht.body.2 h1 x h
    · exact key _ ht.els.2 h2 x h
theorem callNs_in {w : World} {Q : Nat → Prop} {A : Option Addr} {c : Nat} {l : List NT} (h : Row w Q A c l) : ∀ x, x ∈ callNs l → x.In w Q := by
  obtain ⟨h0, h⟩ := h
  clear h0
  induction l with
  | nil => intro x hx; rw [callNs_nil] at hx; cases hx
  | cons y l ih =>
    intro x hx
    rw [callNs_cons] at hx
    rcases List.mem_append.1 hx with h1 | h1
    · exact callN_in y (h y (by simp)) x h1
    · exact ih (fun z hz => h z (by simp [hz])) x h1
/-! ### Check -/
/-- The definitions before the i-th are different from one another and few enough. -/
def DupAt (D : List NT) (i : Nat) : Prop := dupN [] D = dupN ((D.take i).map NT.s) (D.drop i) ∧ ((D.take i).map NT.s).Nodup
theorem DupAt.start (D : List NT) : DupAt D 0 := ⟨by simp, by simp⟩
theorem DupAt.at_ {D : List NT} {i : Nat} {x : NT} (h : DupAt D i) (hx : D[i]? = some x) :
    (hasN ((D.take i).map NT.s) x.s = true → dupN [] D = some (x.a, 12)) ∧
    (hasN ((D.take i).map NT.s) x.s = false → i = 64 → dupN [] D = some (x.a, 14)) ∧
    (hasN ((D.take i).map NT.s) x.s = false → i ≠ 64 → DupAt D (i + 1)) := by
  have hi := (List.getElem?_eq_some_iff.1 hx).1
  have hd : D.drop i = x :: D.drop (i + 1) := by
    rw [List.drop_eq_getElem_cons hi]
    rw [List.getElem?_eq_getElem hi] at hx
    injection hx with hx
    rw [hx]
  have hl : ((D.take i).map NT.s).length = i := by rw [List.length_map, List.length_take]; omega
  have h1 : dupN [] D = (if hasN ((D.take i).map NT.s) x.s = true then some (x.a, 12) else if ((D.take i).map NT.s).length = 64 then some (x.a, 14) else dupN ((D.take i).map NT.s ++ [x.s]) (D.drop (i + 1))) := by rw [h.1, hd, dupN]
  rw [hl] at h1
  refine ⟨fun hh => ?_, fun hh h6 => ?_, fun hh h6 => ⟨?_, ?_⟩⟩
  · rw [h1, if_pos hh]
  · rw [h1, if_neg (by rw [hh]; decide), if_pos h6]
  · rw [h1, if_neg (by rw [hh]; decide), if_neg h6, NT.take_step hx, List.map_append]
    rfl
  · rw [NT.take_step hx, List.map_append, List.nodup_append]
    refine ⟨h.2, by simp, fun a ha b hb e => ?_⟩
    simp only [List.map_cons, List.map_nil, List.mem_singleton] at hb
    subst hb
    subst e
    rw [hasN_iff.2 ha] at hh
    cases hh
theorem DupAt.end_ {D : List NT} {n : Nat} (h : DupAt D n) (hn : n = D.length) : dupN [] D = none := by
  rw [h.1, hn, List.drop_length]
  rfl
/-- No call before the i-th is one of a name without a definition. -/
theorem bad_step {l cs : List NT} {i : Nat} {x : NT} (h : (cs.take i).find? (badCall l) = none) (hx : cs[i]? = some x) : (badCall l x = true → cs.find? (badCall l) = some x) ∧ (badCall l x = false → (cs.take (i + 1)).find? (badCall l) = none) := by
  have hi := (List.getElem?_eq_some_iff.1 hx).1
  have hl : cs = cs.take i ++ x :: cs.drop (i + 1) := by
    rw [List.getElem?_eq_getElem hi] at hx
    injection hx with hx
    conv => lhs; rw [← List.take_append_drop i cs, List.drop_eq_getElem_cons hi, hx]
  constructor
  · intro hb
    rw [hl, List.find?_append, h, Option.none_or, List.find?_cons, hb]
  · intro hb
    rw [NT.take_step hx, List.find?_append, h, Option.none_or, List.find?_cons, hb]
    rfl
theorem checkN_dupE {l : List NT} {r : Int × Nat} (h : dupN [] (defsN l) = some r) : checkN l = r := by unfold checkN; rw [h]
theorem checkN_badE {l : List NT} {t : NT} (h : dupN [] (defsN l) = none) (hb : (callNs l).find? (badCall l) = some t) : checkN l = (t.a, 11) := by unfold checkN; rw [h]; dsimp only; rw [hb]
theorem checkN_okE {l : List NT} (h : dupN [] (defsN l) = none) (hb : (callNs l).find? (badCall l) = none) : checkN l = (0, 0) := by unfold checkN; rw [h]; dsimp only; rw [hb]
set_option maxRecDepth 100000 in
set_option maxHeartbeats 6400000 in
theorem dcheckK_c {l : List NT} {A : Option Addr} {c : Nat} {w : World} (hA : Row w (Lt w) A c l) (ht : tots l ≤ 5000) :
    Calls Tryz.prog 16 #[.slice A l.length c] w fun e w' => Bel w w' ∧ e = .returned (.tuple #[.int .i64 (checkN l).1, .int .i64 ((checkN l).2 : Nat)]) := by
  have hll : l.length ≤ 100000 := by have := cnts_le_len l; have := cnts_le l; omega
  have HSP := Lib.hid (dsplit_c hA hll)
  have hdl := defs_len l
  have HCA := Lib.hid (fun W (hb : Bel w W) => dcalls_c (hA.bel hb) (show tots l ≤ 100000 by omega))
  obtain ⟨D, hD⟩ : ∃ q, q = defsN l := ⟨_, rfl⟩
  rw [← hD] at hdl
  obtain ⟨n, hn⟩ : ∃ q, q = D.length := ⟨_, rfl⟩
  have hn5 : n ≤ 100000 := by omega
  have hkl := callNs_len l
  have HKL := Lib.hid (show (callNs l).length ≤ 100000 by omega)
  have HKS := Lib.hid (fun x (hx : x ∈ l) => in_s14 (hA.2 x hx))
  have HCK := Lib.hid (fun x (hx : x ∈ callNs l) => in_s14 (callNs_in hA x hx))
  have HN := Lib.hid hn
  have HD := Lib.hid hD
  have hmm := @run_makeMap Tryz.prog
  clear hA hn hD hdl ht hll hkl
  go_enter Tryz.func16, Tryz.ntmps16
  go_wp2_with (go_at_call 29; ((with_reducible refine HSP.out.mono ?_); rintro e w1 ⟨A1, c1, B1, d1, rfl, HS1⟩; rw [← HD.out, ← HN.out] at HS1 ⊢))
  have HM0 := Lib.hid (SMap.made w1)
  have HB0 := Lib.hid (Bel.alloc w1 (.map #[] 0))
  obtain ⟨M, hM⟩ : ∃ q, q = w1.heap.size := ⟨_, rfl⟩
  have HM := Lib.hid hM
  rw [← hM] at HM0 ⊢
  clear hM hmm
  generalize w1.alloc (.map #[] 0) = w2 at HM0 HB0 ⊢
  go_loopw [19] (fun s19 wr => ∃ i : Nat, i ≤ n ∧ s19 = .int .i64 i ∧ Hid (DupAt D i) ∧ Hid (SMap wr M i (fF ((D.take i).map NT.s))) ∧ Hid (Bel w1 wr)) (fun s19 _ => n - (intOf s19).toNat)
  case atStart => exact ⟨0, Nat.zero_le _, rfl, Lib.hid (DupAt.start D), Lib.hid (HM0.out.congr fun k => fF_nil k), HB0⟩
  case round =>
    obtain ⟨i, hi, rfl, HDU, HMP, HBW⟩ := hrel
    by_cases hlt : i < n
    · obtain ⟨x, hx⟩ : ∃ x, D[i]? = some x := ⟨_, List.getElem?_eq_getElem (by have := HN.out; omega)⟩
      have hxl : x ∈ l := (defs_mem (l := l) (by rw [← HD.out]; exact List.mem_of_getElem? hx)).1
      obtain ⟨g, o, hAA, hg, hcc⟩ := (HS1.out.a.row.only (bel_only HBW.out) (by simp)).at_ NT.cs_len hx (by decide)
      subst hAA
      obtain ⟨a0, a1, a2, a3, a4, a5, a6, a7⟩ := Cells.all (t := x) hcc
      have HBA := Lib.hid (Bel.alloc wr (.cells #[.int .i64 x.k, .int .i64 x.a, .string x.s, .string x.p, .bool x.h, .bool x.e, .slice x.A x.b.length x.c, .slice x.B x.l.length x.d] 69))
      have HXS := Lib.hid (HKS.out x hxl)
      have HAT := Lib.hid (HDU.out.at_ hx)
      have HMA := Lib.hid (HMP.out.alloc (.cells #[.int .i64 x.k, .int .i64 x.a, .string x.s, .string x.p, .bool x.h, .bool x.e, .slice x.A x.b.length x.c, .slice x.B x.l.length x.d] 69))
      have HST := Lib.hid (show (D.take (i + 1)).map NT.s = (D.take i).map NT.s ++ [x.s] by rw [NT.take_step hx, List.map_append]; rfl)
      have HND := Lib.hid HDU.out.2
      have HLE := Lib.hid (show ((D.take i).map NT.s).length = i by rw [List.length_map, List.length_take]; have := HN.out; omega)
      have HDE := Lib.hid (show ∀ r, dupN [] D = some r → checkN l = r from fun r h => checkN_dupE (by rw [← HD.out]; exact h))
      have HBF := Lib.hid (HS1.out.a.bel.trans (HBW.out.trans HBA.out))
      clear hx hxl hg hcc
      cases hh : hasN ((D.take i).map NT.s) x.s with
      | true =>
        have HE := Lib.hid (HDE.out _ (HAT.out.1 hh))
        have HV := Lib.hid (show (fF ((D.take i).map NT.s) x.s).getD (.bool false) = .bool true by rw [fF_bool, hh])
        clear hh
        go_wp2_with ((with_reducible refine wp_look rfl (.tmp 24) (.tmp 26) 67 rfl 4 Tryz.underlying67 (.bool false) zeroBool14 M i (fF ((D.take i).map NT.s)) rfl HMA.out x.s rfl HXS.out (.bool true) HV.out ?_))
        go_ret2
        rw [HE.out]
        exact ⟨HBF.out, rfl⟩
      | false =>
        have HV := Lib.hid (show (fF ((D.take i).map NT.s) x.s).getD (.bool false) = .bool false by rw [fF_bool, hh])
        by_cases h64 : i = 64
        · subst h64
          have HE := Lib.hid (HDE.out _ (HAT.out.2.1 hh rfl))
          clear hh
          go_wp2_with (first
            | ((with_reducible refine wp_look rfl (.tmp 24) (.tmp 26) 67 rfl 4 Tryz.underlying67 (.bool false) zeroBool14 M 64 (fF ((D.take 64).map NT.s)) rfl HMA.out x.s rfl HXS.out (.bool false) HV.out ?_))
            | ((with_reducible refine wp_lenF rfl (.tmp 31) 67 rfl 4 Tryz.underlying67 M 64 ((D.take 64).map NT.s) rfl HMA.out HND.out 64 HLE.out ?_)))
          go_ret2
          rw [HE.out]
          exact ⟨HBF.out, rfl⟩
        · have HE := Lib.hid (HAT.out.2.2 hh h64)
          have h64b : ((i : Int) == 64) = false := by simpa using (by omega : ¬ (i : Int) = 64)
          clear hh
          go_wp2_with (first
            | ((with_reducible refine wp_look rfl (.tmp 24) (.tmp 26) 67 rfl 4 Tryz.underlying67 (.bool false) zeroBool14 M i (fF ((D.take i).map NT.s)) rfl HMA.out x.s rfl HXS.out (.bool false) HV.out ?_))
            | ((with_reducible refine wp_lenF rfl (.tmp 31) 67 rfl 4 Tryz.underlying67 M i ((D.take i).map NT.s) rfl HMA.out HND.out i HLE.out ?_))
            | ((with_reducible refine wp_store rfl (.tmp 36) (.tmp 38) (.const (.bool true)) 67 rfl 4 Tryz.underlying67 M i (fF ((D.take i).map NT.s)) rfl HMA.out (by unfold maxLen; omega) x.s rfl HXS.out (.bool true) rfl ?_); intro wz HMZ hgz; have HGZ := Lib.hid hgz; clear hgz))
          go_roundw
          case rel => exact ⟨i + 1, by omega, by go_num, HE, Lib.hid (HMZ.out.congr fun k => by rw [HST.out]; exact fF_push _ _ _), Lib.hid (Below.grown (HBW.out.trans HBA.out) HGZ.out (HBW.out.trans HBA.out).size (fun j hj => by cases hj; exact Nat.le_of_eq HM.out.symm))⟩
          case measure => simp [intOf]; omega
    · obtain rfl : i = n := by omega
      have HDN := Lib.hid (show dupN [] (defsN l) = none by rw [← HD.out]; exact HDU.out.end_ HN.out)
      have HMF := Lib.hid (show SMap wr M i (fF (namesN l)) by have h := HMP.out; have e : D.take i = D := (by rw [HN.out, List.take_length]); rw [e] at h; unfold namesN; rw [← HD.out]; exact h)
      have HBR := Lib.hid (HS1.out.a.bel.trans HBW.out)
      have HCC := Lib.hid (HCA.out _ HBR.out)
      clear hlt
      go_wp2_with (go_at_call 30; ((with_reducible refine HCC.out.mono ?_); rintro e w3 ⟨Y, y, rfl, HY1, HYF, HB3⟩; obtain ⟨cs, hcs⟩ : ∃ q, q = callNs l := ⟨_, rfl⟩; have hkl := HKL.out; rw [← hcs] at HY1 hkl ⊢; obtain ⟨cn, hcn⟩ : ∃ q, q = cs.length := ⟨_, rfl⟩; rw [← hcn] at hkl ⊢; have HCS := Lib.hid hcs; have HCN := Lib.hid hcn; clear hcs hcn))
      have HM3 := Lib.hid (HMF.out.bel HB3.out)
      go_loopw [43] (fun s43 wq => ∃ j : Nat, j ≤ cn ∧ s43 = .int .i64 j ∧ Hid ((cs.take j).find? (badCall l) = none) ∧ Hid (Bel w3 wq)) (fun s43 _ => cn - (intOf s43).toNat)
      case atStart => exact ⟨0, Nat.zero_le _, rfl, Lib.hid rfl, Lib.hid (Bel.refl _)⟩
      case round =>
        obtain ⟨j, hj, rfl, HFN, HBJ⟩ := hrel
        by_cases hlt : j < cn
        · obtain ⟨x, hx⟩ : ∃ x, cs[j]? = some x := ⟨_, List.getElem?_eq_getElem (by have := HCN.out; omega)⟩
          have HXS := Lib.hid (HCK.out x (by rw [← HCS.out]; exact List.mem_of_getElem? hx))
          obtain ⟨g, o, hAA, hg, hcc⟩ := (HY1.out.only (bel_only HBJ.out) (by simp)).at_ NT.cs_len hx (by decide)
          subst hAA
          obtain ⟨a0, a1, a2, a3, a4, a5, a6, a7⟩ := Cells.all (t := x) hcc
          have HST := Lib.hid (bad_step HFN.out hx)
          rename World => wj
          have HBA := Lib.hid (Bel.alloc wj (.cells #[.int .i64 x.k, .int .i64 x.a, .string x.s, .string x.p, .bool x.h, .bool x.e, .slice x.A x.b.length x.c, .slice x.B x.l.length x.d] 69))
          have HMA := Lib.hid ((HM3.out.bel HBJ.out).bel HBA.out)
          have HBF := Lib.hid (((HBR.out.trans HB3.out).trans HBJ.out).trans HBA.out)
          clear hx hg hcc
          cases hh : hasN (namesN l) x.s with
          | true =>
            have HE := Lib.hid (HST.out.2 (by unfold badCall; rw [hh]; rfl))
            have HV := Lib.hid (show (fF (namesN l) x.s).getD (.bool false) = .bool true by rw [fF_bool, hh])
            clear hh
            go_wp2_with ((with_reducible refine wp_look rfl (.tmp 47) (.tmp 49) 67 rfl 4 Tryz.underlying67 (.bool false) zeroBool14 M i (fF (namesN l)) rfl HMA.out x.s rfl HXS.out (.bool true) HV.out ?_))
            go_roundw
            case rel => exact ⟨j + 1, by omega, by go_num, HE, Lib.hid (HBJ.out.trans HBA.out)⟩
            case measure => simp [intOf]; omega
          | false =>
            have HE := Lib.hid (checkN_badE HDN.out (by rw [← HCS.out]; exact HST.out.1 (by unfold badCall; rw [hh]; rfl)))
            have HV := Lib.hid (show (fF (namesN l) x.s).getD (.bool false) = .bool false by rw [fF_bool, hh])
            clear hh
            go_wp2_with ((with_reducible refine wp_look rfl (.tmp 47) (.tmp 49) 67 rfl 4 Tryz.underlying67 (.bool false) zeroBool14 M i (fF (namesN l)) rfl HMA.out x.s rfl HXS.out (.bool false) HV.out ?_))
            go_ret2
            rw [HE.out]
            exact ⟨HBF.out, rfl⟩
        · obtain rfl : j = cn := by omega
          have HE := Lib.hid (checkN_okE HDN.out (by rw [← HCS.out]; have h := HFN.out; rwa [HCN.out, List.take_length] at h))
          have HBF := Lib.hid ((HBR.out.trans HB3.out).trans HBJ.out)
          go_wp2_with fail
          go_ret2
          rw [HE.out]
          exact ⟨HBF.out, rfl⟩
end Go.Proofs.YtpcapmdfjmpdiaaGreatDoor
