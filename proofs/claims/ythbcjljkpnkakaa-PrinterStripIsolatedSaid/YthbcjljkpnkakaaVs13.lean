/-
  The visits of a walk through nodes, as plain data: before the Body, before the Else, behind both. No program is imported here.
-/
import Derived.Test.YthbcjljkpnkakaaPz13
namespace Go.Proofs.Ythbcjljkpnkakaa
open NT Go.RowKit
set_option linter.unusedVariables false
set_option linter.unusedSimpArgs false

/-- A visit: of the node t, whose cells begin at cell o of block g, at the place q. -/
theorem keyOf13 {x u : NT} (h0 : x.k = u.k) (h2 : x.s = u.s) (h3 : x.p = u.p) (h4 : x.h = u.h) (h5 : x.e = u.e) (h6 : keys false x.b = keys false u.b) (h7 : keys false x.l = keys false u.l) : key false x = key false u := by
  rw [key_mk, key_mk, h0, h2, h3, h4, h5, h6, h7]; rfl
structure Vis where
  g : Nat
  o : Nat
  t : NT
  q : Nat
def Vis.cs (v : Vis) : List Value := [.pointer (some ⟨v.g, v.o, none⟩), .int .i64 v.q]
def Vis.val (v : Vis) : Value := .agg #[.pointer (some ⟨v.g, v.o, none⟩), .int .i64 v.q]
def blkA : Option Addr → Nat | some a => a.block | none => 0
def offA : Option Addr → Nat | some a => a.off | none => 0
mutual
def vN : NT → Nat → Nat → List Vis
  | .mk k a s p h e A c b B d l, g, o => ⟨g, o, .mk k a s p h e A c b B d l, 0⟩ :: (vNs b A 0 ++ (⟨g, o, .mk k a s p h e A c b B d l, 1⟩ :: (vNs l B 0 ++ [⟨g, o, .mk k a s p h e A c b B d l, 2⟩])))
def vNs : List NT → Option Addr → Nat → List Vis
  | [], _, _ => []
  | x :: r, A, i => vN x (blkA A) (offA A + i * 8) ++ vNs r A (i + 1)
end
theorem vN_eq (t : NT) (g o : Nat) : vN t g o = ⟨g, o, t, 0⟩ :: (vNs t.b t.A 0 ++ (⟨g, o, t, 1⟩ :: (vNs t.l t.B 0 ++ [⟨g, o, t, 2⟩]))) := by cases t; rw [vN]; rfl
theorem vNs_nil (A : Option Addr) (i : Nat) : vNs [] A i = [] := by simp [vNs]
theorem vNs_cons (x : NT) (r : List NT) (A : Option Addr) (i : Nat) : vNs (x :: r) A i = vN x (blkA A) (offA A + i * 8) ++ vNs r A (i + 1) := by simp [vNs]

/-! ### What the nodes of a source are like, their structure -/
/-- What is no block has nothing in it; without an else branch there is none. -/
inductive Wn : NT → Prop
  | mk (t : NT) (h1 : t.e = false → t.l = []) (h2 : blkI t.k = false → t.b = [] ∧ t.e = false) (hb : ∀ x, x ∈ t.b → Wn x) (hl : ∀ x, x ∈ t.l → Wn x) : Wn t
theorem Wn.body {t : NT} (h : Wn t) : ∀ x, x ∈ t.b → Wn x := by cases h; assumption
theorem Wn.els {t : NT} (h : Wn t) : ∀ x, x ∈ t.l → Wn x := by cases h; assumption
theorem Wn.ne {t : NT} (h : Wn t) : t.e = false → t.l = [] := by cases h; assumption
theorem Wn.nb {t : NT} (h : Wn t) : blkI t.k = false → t.b = [] ∧ t.e = false := by cases h; assumption
theorem ers_eq_nil {l : List NT} (h : ers l = []) : l = [] := by
  have := congrArg List.length h
  rw [ers_len] at this
  exact List.eq_nil_of_length_eq_zero (by simpa using this)
theorem wn_er (t : NT) : Wn t.er → Wn t := by
  refine ind (M := fun t => Wn t.er → Wn t) (fun t h1 h2 h => ?_) t
  have hb := h.body
  have hl := h.els
  have hn := h.ne
  have hm := h.nb
  rw [er_b, ers_map] at hb
  rw [er_l, ers_map] at hl
  rw [er_e, er_l] at hn
  rw [er_k, er_b, er_e] at hm
  exact .mk t (fun he => ers_eq_nil (hn he)) (fun hk => ⟨ers_eq_nil (hm hk).1, (hm hk).2⟩) (fun x hx => h1 x hx (hb _ (List.mem_map_of_mem hx))) (fun x hx => h2 x hx (hl _ (List.mem_map_of_mem hx)))
theorem wn_ers {l m : List NT} (h : ∀ x, x ∈ l → Wn x) (he : ers m = l) : ∀ x, x ∈ m → Wn x := by
  intro x hx
  refine wn_er x (h _ ?_)
  rw [← he, ers_map]
  exact List.mem_map_of_mem hx
theorem nd_wn {t : Tok} {e : Bool} {b l : List NT} (h1 : e = false → l = []) (h2 : blk t.k = false → b = [] ∧ e = false) (hb : ∀ x, x ∈ b → Wn x) (hl : ∀ x, x ∈ l → Wn x) : Wn (nd t e b l) :=
  .mk _ h1 (fun hk => h2 (by rw [← blkI_nat]; exact hk)) hb hl
theorem pl_wn : ∀ (f : Nat) (ts : List Tok) (op : Nat) (ie : Bool) (d c : Nat) (l : List NT) (r : List Tok) (c' : Nat), pl f ts op ie d c = .ok (l, r, c') → ∀ x, x ∈ l → Wn x
  | 0, _, _, _, _, _, _, _, _, h => by cases h
  | f + 1, [], op, ie, d, c, l, r, c', h => by
    simp [pl] at h
    obtain ⟨rfl, rfl, rfl⟩ := h
    simp
  | f + 1, t :: ts, op, ie, d, c, l, r, c', h => by
    unfold pl at h
    split at h
    · split at h
      · simp at h; obtain ⟨rfl, rfl, rfl⟩ := h; simp
      · cases h
    split at h
    · split at h
      · cases h
      · simp at h; obtain ⟨rfl, rfl, rfl⟩ := h; simp
    split at h
    · cases h
    split at h
    · cases h
    split at h
    · rename_i hbk
      obtain ⟨l1, rfl, h1⟩ := cons_ok h
      have e1 := pl_wn f ts _ _ _ _ _ _ _ h1
      intro x hx
      rcases List.mem_cons.1 hx with rfl | hx
      · exact nd_wn (fun _ => rfl) (fun _ => ⟨rfl, rfl⟩) (by simp) (by simp)
      · exact e1 x hx
    rename_i hbk
    have hbk : blk t.k = true := by simpa using hbk
    split at h
    · cases h
    rename_i b r1 c1 hp
    have e1 := pl_wn f ts _ _ _ _ _ _ _ hp
    split at h
    · cases h
    rename_i u r2
    split at h
    · split at h
      · cases h
      rename_i b2 r3 c2 hp2
      have e3 := pl_wn f r2 _ _ _ _ _ _ _ hp2
      split at h
      · cases h
      rename_i v r4
      obtain ⟨l1, rfl, h1⟩ := cons_ok h
      have e5 := pl_wn f r4 _ _ _ _ _ _ _ h1
      intro x hx
      rcases List.mem_cons.1 hx with rfl | hx
      · exact nd_wn (fun h => by cases h) (fun h => by rw [hbk] at h; cases h) e1 e3
      · exact e5 x hx
    · obtain ⟨l1, rfl, h1⟩ := cons_ok h
      have e5 := pl_wn f r2 _ _ _ _ _ _ _ h1
      intro x hx
      rcases List.mem_cons.1 hx with rfl | hx
      · exact nd_wn (fun _ => rfl) (fun h => by rw [hbk] at h; cases h) e1 (by simp)
      · exact e5 x hx
theorem Parsed.wn {l : List NT} (h : Parsed l) : ∀ x, x ∈ l → Wn x := by
  obtain ⟨x, ts, c, hx, hl, hp⟩ := h
  exact pl_wn _ ts _ _ _ _ _ _ _ hp

/-! ### The source, by its visits -/
/-- What a visit adds to the source. -/
def Vis.out (v : Vis) : List UInt8 :=
  if v.q = 0 then fmt ⟨v.t.k.toNat, 0, toL v.t.s, toL v.t.p, v.t.h⟩ else if v.q = 1 then (if v.t.e then fmt elT else []) else (if blkI v.t.k then fmt edT else [])
def outs (vs : List Vis) : List UInt8 := vs.flatMap Vis.out
theorem outs_nil : outs [] = [] := rfl
theorem outs_append (l m : List Vis) : outs (l ++ m) = outs l ++ outs m := by simp [outs]
theorem outs_cons (x : Vis) (m : List Vis) : outs (x :: m) = x.out ++ outs m := by simp [outs]
theorem outs_snoc (l : List Vis) (x : Vis) : outs (l ++ [x]) = outs l ++ x.out := by rw [outs_append, outs_cons, outs_nil, List.append_nil]
theorem vNs_outs_of : ∀ (l : List NT), (∀ x, x ∈ l → ∀ g o, outs (vN x g o) = fmtN x) → ∀ A i, outs (vNs l A i) = fmtNs l
  | [], _, A, i => by rw [vNs_nil, fmtNs_nil]; rfl
  | x :: r, h, A, i => by rw [vNs_cons, outs_append, fmtNs_cons, h x (by simp), vNs_outs_of r (fun y hy => h y (by simp [hy]))]
theorem vN_outs (t : NT) : Wn t → ∀ g o, outs (vN t g o) = fmtN t := by
  refine ind (M := fun t => Wn t → ∀ g o, outs (vN t g o) = fmtN t) (fun t h1 h2 h g o => ?_) t
  have hb := vNs_outs_of t.b (fun x hx => h1 x hx (h.body x hx)) t.A 0
  have hl := vNs_outs_of t.l (fun x hx => h2 x hx (h.els x hx)) t.B 0
  rw [vN_eq, outs_cons, outs_append, outs_cons, outs_append, outs_cons, outs_nil, hb, hl, fmtN_eq]
  show fmt ⟨t.k.toNat, 0, toL t.s, toL t.p, t.h⟩ ++ (fmtNs t.b ++ ((if t.e then fmt elT else []) ++ (fmtNs t.l ++ ((if blkI t.k then fmt edT else []) ++ [])))) = _
  cases hk : blkI t.k with
  | false =>
    obtain ⟨e1, e2⟩ := h.nb hk
    rw [e1, e2, h.ne e2, fmtNs_nil]
    simp
  | true =>
    cases he : t.e with
    | false => rw [h.ne he, fmtNs_nil]; simp
    | true => simp
theorem vNs_outs {l : List NT} (h : ∀ x, x ∈ l → Wn x) (A : Option Addr) (i : Nat) : outs (vNs l A i) = fmtNs l := vNs_outs_of l (fun x hx => vN_outs x (h x hx)) A i

/-! ### The structure, by its visits -/
/-- Two visits differ in nothing but offsets and what is in the nodes. -/
def alk (v w : Vis) : Prop := v.q = w.q ∧ v.t.k = w.t.k ∧ v.t.s = w.t.s ∧ v.t.p = w.t.p ∧ v.t.h = w.t.h ∧ v.t.e = w.t.e
def Alk : List Vis → List Vis → Prop
  | [], [] => True
  | v :: vs, w :: ws => alk v w ∧ Alk vs ws
  | _, _ => False
theorem Alk.append {a b c d : List Vis} : ∀ (h1 : Alk a b) (h2 : Alk c d), Alk (a ++ c) (b ++ d) := by
  induction a generalizing b with
  | nil => intro h1 h2; cases b with
    | nil => exact h2
    | cons _ _ => exact h1.elim
  | cons x a ih => intro h1 h2; cases b with
    | nil => exact h1.elim
    | cons y b => exact ⟨h1.1, ih h1.2 h2⟩
/-- It does not begin with a node's first visit. -/
def Rest (l : List Vis) : Prop := ∀ v, l.head? = some v → v.q ≠ 0
def Split1 (t : NT) : Prop := ∀ (u : NT) (g o g' o' : Nat) (r r' : List Vis), Alk (vN t g o ++ r) (vN u g' o' ++ r') → key false t = key false u ∧ Alk r r'
theorem vN_head (u : NT) (g o : Nat) : ∃ r, vN u g o = ⟨g, o, u, 0⟩ :: r := ⟨_, vN_eq u g o⟩
theorem split_list : ∀ (l : List NT), (∀ x, x ∈ l → Split1 x) → ∀ (m : List NT) (A B : Option Addr) (i j : Nat) (r r' : List Vis), Rest r → Rest r' → Alk (vNs l A i ++ r) (vNs m B j ++ r') → keys false l = keys false m ∧ Alk r r'
  | [], _, [], A, B, i, j, r, r', hr, hr', h => ⟨rfl, by rw [vNs_nil, vNs_nil] at h; exact h⟩
  | [], _, u :: m, A, B, i, j, r, r', hr, hr', h => by
    rw [vNs_nil, vNs_cons] at h
    obtain ⟨q, hq⟩ := vN_head u (blkA B) (offA B + j * 8)
    rw [hq] at h
    cases r with
    | nil => exact h.elim
    | cons v r => exact absurd h.1.1 (hr v rfl)
  | x :: l, _, [], A, B, i, j, r, r', hr, hr', h => by
    rw [vNs_nil, vNs_cons] at h
    obtain ⟨q, hq⟩ := vN_head x (blkA A) (offA A + i * 8)
    rw [hq] at h
    cases r' with
    | nil => exact h.elim
    | cons v r' => exact absurd h.1.1.symm (hr' v rfl)
  | x :: l, ih, u :: m, A, B, i, j, r, r', hr, hr', h => by
    rw [vNs_cons, vNs_cons, List.append_assoc, List.append_assoc] at h
    obtain ⟨h1, h2⟩ := ih x (by simp) u _ _ _ _ _ _ h
    obtain ⟨h3, h4⟩ := split_list l (fun y hy => ih y (by simp [hy])) m A B _ _ r r' hr hr' h2
    refine ⟨?_, h4⟩
    show key false x :: keys false l = key false u :: keys false m
    rw [h1, h3]
theorem split_one (t : NT) : Split1 t := by
  refine ind (M := Split1) (fun t h1 h2 => ?_) t
  intro u g o g' o' r r' h
  rw [vN_eq, vN_eq] at h
  simp only [List.cons_append, List.append_assoc, List.nil_append] at h
  obtain ⟨⟨_, a1, a2, a3, a4, a5⟩, h⟩ := h
  obtain ⟨b1, h⟩ := split_list t.b h1 u.b _ _ _ _ _ _ (by intro v hv; simp at hv; subst hv; simp) (by intro v hv; simp at hv; subst hv; simp) h
  obtain ⟨_, h⟩ := h
  obtain ⟨b2, h⟩ := split_list t.l h2 u.l _ _ _ _ _ _ (by intro v hv; simp at hv; subst hv; simp) (by intro v hv; simp at hv; subst hv; simp) h
  exact ⟨keyOf13 a1 a2 a3 a4 a5 b1 b2, h.2⟩
theorem Alk.refl_of {l m : List NT} (h : ∀ x, x ∈ l → ∀ (u : NT) (g o g' o' : Nat), key false x = key false u → Alk (vN x g o) (vN u g' o')) : ∀ (A B : Option Addr) (i j : Nat), keys false l = keys false m → Alk (vNs l A i) (vNs m B j) := by
  induction l generalizing m with
  | nil =>
    intro A B i j hk
    cases m with
    | nil => rw [vNs_nil, vNs_nil]; trivial
    | cons u m => simp [keys] at hk
  | cons x l ih =>
    intro A B i j hk
    cases m with
    | nil => simp [keys] at hk
    | cons u m =>
      have hk' : key false x :: keys false l = key false u :: keys false m := hk
      injection hk' with k1 k2
      rw [vNs_cons, vNs_cons]
      exact (h x (by simp) u _ _ _ _ k1).append (ih (fun y hy => h y (by simp [hy])) A B _ _ k2)
theorem alk_one (t : NT) : ∀ (u : NT) (g o g' o' : Nat), key false t = key false u → Alk (vN t g o) (vN u g' o') := by
  refine ind (M := fun t => ∀ (u : NT) (g o g' o' : Nat), key false t = key false u → Alk (vN t g o) (vN u g' o')) (fun t h1 h2 u g o g' o' hk => ?_) t
  obtain ⟨e0, _, e2, e3, e4, e5, e6, e7⟩ := key_eq hk
  rw [vN_eq, vN_eq]
  exact ⟨⟨rfl, e0, e2, e3, e4, e5⟩, (Alk.refl_of h1 _ _ _ _ e6).append ⟨⟨rfl, e0, e2, e3, e4, e5⟩, (Alk.refl_of h2 _ _ _ _ e7).append ⟨⟨rfl, e0, e2, e3, e4, e5⟩, trivial⟩⟩⟩
/-- The visits are alike just where the nodes are the same, but for offsets. -/
theorem alk_iff (l m : List NT) (A B : Option Addr) : Alk (vNs l A 0) (vNs m B 0) ↔ keys false l = keys false m := by
  constructor
  · intro h
    refine (split_list l (fun x _ => split_one x) m A B 0 0 [] [] (by intro v hv; cases hv) (by intro v hv; cases hv) ?_).1
    rw [List.append_nil, List.append_nil]
    exact h
  · exact Alk.refl_of (fun x _ => alk_one x) A B 0 0
theorem Alk.len {a b : List Vis} : Alk a b → a.length = b.length := by
  induction a generalizing b with
  | nil => intro h; cases b with
    | nil => rfl
    | cons _ _ => exact h.elim
  | cons x a ih => intro h; cases b with
    | nil => exact h.elim
    | cons y b => simp [ih h.2]
theorem Alk.at_ {a b : List Vis} (h : Alk a b) {i : Nat} {x y : Vis} (hx : a[i]? = some x) (hy : b[i]? = some y) : alk x y := by
  induction a generalizing b i with
  | nil => simp at hx
  | cons v a ih => cases b with
    | nil => exact h.elim
    | cons u b =>
      cases i with
      | zero => simp at hx hy; subst hx hy; exact h.1
      | succ i => exact ih h.2 (by simpa using hx) (by simpa using hy)
/-- How many visits there are. -/
theorem vNs_length_of : ∀ (l : List NT), (∀ x, x ∈ l → ∀ g o, (vN x g o).length = 3 * tot x) → ∀ A i, (vNs l A i).length = 3 * tots l
  | [], _, A, i => by rw [vNs_nil, tots_nil]; rfl
  | x :: r, h, A, i => by rw [vNs_cons, List.length_append, h x (by simp), vNs_length_of r (fun y hy => h y (by simp [hy])), tots_cons]; omega
theorem vN_length (t : NT) : ∀ g o, (vN t g o).length = 3 * tot t := by
  refine ind (M := fun t => ∀ g o, (vN t g o).length = 3 * tot t) (fun t h1 h2 g o => ?_) t
  rw [vN_eq, tot_eq]
  simp only [List.length_cons, List.length_append, List.length_nil]
  rw [vNs_length_of t.b h1, vNs_length_of t.l h2]
  omega
theorem vNs_length (l : List NT) (A : Option Addr) (i : Nat) : (vNs l A i).length = 3 * tots l := vNs_length_of l (fun x _ => vN_length x) A i
end Go.Proofs.Ythbcjljkpnkakaa
