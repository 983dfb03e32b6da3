/-
  The visits of a walk through nodes, as plain data: before the Body, before the Else, behind both. No program is imported here.
  A range over a function whose rounds depend on where the iterator stands: a law of the walk. No program is imported here.
  A region that draws its order, within a round of a range over a function, out of the plain walk of the region (the fence that asks nothing). No program is imported here.
  Contract: the program's walk through nodes, for every loop body that keeps what the walk reads; the way visits hands back.
  Walks that only read: the visits come one behind the other, as the nodes lie in memory.
-/
import Derived.Test.YtpcapmdfjmpdiaaGreatDoorZPure12
import Derived.RangeFuncNested
import Derived.RangeFuncBound
import Derived.RangeFuncCalls
import Derived.RangeFuncLeaves
import Derived.Shelf.Abstract
import Derived.OwnWalkIn
import Derived.TacticsInMore
import Derived.LoopNIn
import Derived.LoopIn
import Derived.Test.YtpcapmdfjmpdiaaGreatDoorZRegion2
import Derived.Test.YtpcapmdfjmpdiaaGreatDoorZName
import Derived.Test.YtpcapmdfjmpdiaaGreatDoorZCt12
namespace Go.Proofs.YtpcapmdfjmpdiaaGreatDoor
open NT Go.RowKit
set_option linter.unusedVariables false
set_option linter.unusedSimpArgs false

structure Vis where
  g : Nat
  o : Nat
  t : NT
  q : Nat
def Vis.cs (v : Vis) : List Value := [.pointer (some ⟨v.g, v.o, none⟩), .int .i64 v.q]
def Vis.val (v : Vis) : Value := .agg #[.pointer (some ⟨v.g, v.o, none⟩), .int .i64 v.q]
def blkA : Option Addr → Nat | some a => a.block | none => 0
def offA : Option Addr → Nat | some a => a.off | none => 0
mutual
def vN : NT → Nat → Nat → List Vis
  | .mk k a s p h e A c b B d l, g, o => ⟨g, o, .mk k a s p h e A c b B d l, 0⟩ :: (vNs b A 0 ++ (⟨g, o, .mk k a s p h e A c b B d l, 1⟩ :: (vNs l B 0 ++ [⟨g, o, .mk k a s p h e A c b B d l, 2⟩])))
def vNs : List NT → Option Addr → Nat → List Vis
  | [], _, _ => []
  | x :: r, A, i => vN x (blkA A) (offA A + i * 8) ++ vNs r A (i + 1)
end
theorem vN_eq (t : NT) (g o : Nat) : vN t g o = ⟨g, o, t, 0⟩ :: (vNs t.b t.A 0 ++ (⟨g, o, t, 1⟩ :: (vNs t.l t.B 0 ++ [⟨g, o, t, 2⟩]))) := by cases t; rw [vN]; rfl
theorem vNs_nil (A : Option Addr) (i : Nat) : vNs [] A i = [] := by simp [vNs]
theorem vNs_cons (x : NT) (r : List NT) (A : Option Addr) (i : Nat) : vNs (x :: r) A i = vN x (blkA A) (offA A + i * 8) ++ vNs r A (i + 1) := by simp [vNs]
/-! ### What the nodes of a source are like, their structure -/
/-- What is no block has nothing in it; without an else branch there is none. -/
inductive Wn : NT → Prop
  | mk (t : NT) (h1 : t.e = false → t.l = []) (h2 : blkI t.k = false → t.b = [] ∧ t.e = false) (hb : ∀ x, x ∈ t.b → Wn x) (hl : ∀ x, x ∈ t.l → Wn x) : Wn t
theorem Wn.body {t : NT} (h : Wn t) : ∀ x, x ∈ t.b → Wn x := by cases h; assumption
theorem Wn.els {t : NT} (h : Wn t) : ∀ x, x ∈ t.l → Wn x := by cases h; assumption
theorem Wn.ne {t : NT} (h : Wn t) : t.e = false → t.l = [] := by cases h; assumption
theorem Wn.nb {t : NT} (h : Wn t) : blkI t.k = false → t.b = [] ∧ t.e = false := by cases h; assumption
theorem ers_eq_nil {l : List NT} (h : ers l = []) : l = [] := by
  have := congrArg List.length h
  rw [ers_len] at this
  exact List.eq_nil_of_length_eq_zero (by simpa using this)
theorem wn_er (t : NT) : Wn t.er → Wn t := by
  refine ind (M := fun t => Wn t.er → Wn t) (fun t h1 h2 h => ?_) t
  have hb := h.body
  have hl := h.els
  have hn := h.ne
  have hm := h.nb
  rw [er_b, ers_map] at hb
  rw [er_l, ers_map] at hl
  rw [er_e, er_l] at hn
  rw [er_k, er_b, er_e] at hm
  exact .mk t (fun he => ers_eq_nil (hn he)) (fun hk => ⟨ers_eq_nil (hm hk).1, (hm hk).2⟩) (fun x hx => h1 x hx (hb _ (List.mem_map_of_mem hx))) (fun x hx => h2 x hx (hl _ (List.mem_map_of_mem hx)))
theorem wn_ers {l m : List NT} (h : ∀ x, x ∈ l → Wn x) (he : ers m = l) : ∀ x, x ∈ m → Wn x := by
  intro x hx
  refine wn_er x (h _ ?_)
  rw [← he, ers_map]
  exact List.mem_map_of_mem hx
theorem nd_wn {t : Tok} {e : Bool} {b l : List NT} (h1 : e = false → l = []) (h2 : blk t.k = false → b = [] ∧ e = false) (hb : ∀ x, x ∈ b → Wn x) (hl : ∀ x, x ∈ l → Wn x) : Wn (nd t e b l) :=
  .mk _ h1 (fun hk => h2 (by rw [← blkI_nat]; exact hk)) hb hl
theorem pl_wn : ∀ (f : Nat) (ts : List Tok) (op : Nat) (ie : Bool) (d c : Nat) (l : List NT) (r : List Tok) (c' : Nat), pl f ts op ie d c = .ok (l, r, c') → ∀ x, x ∈ l → Wn x
  | 0, _, _, _, _, _, _, _, _, h => by cases h
  | f + 1, [], op, ie, d, c, l, r, c', h => by
    simp [pl] at h
    obtain ⟨rfl, rfl, rfl⟩ := h
    simp
  | f + 1, t :: ts, op, ie, d, c, l, r, c', h => by
    unfold pl at h
    split at h
    · split at h
      · simp at h; obtain ⟨rfl, rfl, rfl⟩ := h; simp
      · cases h
    split at h
    · split at h
      · cases h
      · simp at h; obtain ⟨rfl, rfl, rfl⟩ := h; simp
    split at h
    · cases h
    split at h
    · cases h
    split at h
    · rename_i hbk
      obtain ⟨l1, rfl, h1⟩ := cons_ok h
      have e1 := pl_wn f ts _ _ _ _ _ _ _ h1
      intro x hx
      rcases List.mem_cons.1 hx with rfl | hx
      · exact nd_wn (fun _ => rfl) (fun _ => ⟨rfl, rfl⟩) (by simp) (by simp)
      · exact e1 x hx
    rename_i hbk
    have hbk : blk t.k = true := by simpa using hbk
    split at h
    · cases h
    rename_i b r1 c1 hp
    have e1 := pl_wn f ts _ _ _ _ _ _ _ hp
    split at h
    · cases h
    rename_i u r2
    split at h
    · split at h
      · cases h
      rename_i b2 r3 c2 hp2
      have e3 := pl_wn f r2 _ _ _ _ _ _ _ hp2
      split at h
      · cases h
      rename_i v r4
      obtain ⟨l1, rfl, h1⟩ := cons_ok h
      have e5 := pl_wn f r4 _ _ _ _ _ _ _ h1
      intro x hx
      rcases List.mem_cons.1 hx with rfl | hx
      · exact nd_wn (fun h => by cases h) (fun h => by rw [hbk] at h; cases h) e1 e3
      · exact e5 x hx
    · obtain ⟨l1, rfl, h1⟩ := cons_ok h
      have e5 := pl_wn f r2 _ _ _ _ _ _ _ h1
      intro x hx
      rcases List.mem_cons.1 hx with rfl | hx
      · exact nd_wn (fun _ => rfl) (fun h => by rw [hbk] at h; cases h) e1 (by simp)
      · exact e5 x hx
theorem Parsed.wn {l : List NT} (h : Parsed l) : ∀ x, x ∈ l → Wn x := by
  obtain ⟨x, ts, c, hx, hl, hp⟩ := h
  exact pl_wn _ ts _ _ _ _ _ _ _ hp
/-! ### The source, by its visits -/
/-- What a visit adds to the source. -/
def Vis.out (v : Vis) : List UInt8 :=
  if v.q = 0 then fmt ⟨v.t.k.toNat, 0, toL v.t.s, toL v.t.p, v.t.h⟩ else if v.q = 1 then (if v.t.e then fmt elT else []) else (if blkI v.t.k then fmt edT else [])
def outs (vs : List Vis) : List UInt8 := vs.flatMap Vis.out
theorem outs_nil : outs [] = [] := rfl
theorem outs_append (l m : List Vis) : outs (l ++ m) = outs l ++ outs m := by simp [outs]
theorem outs_cons (x : Vis) (m : List Vis) : outs (x :: m) = x.out ++ outs m := by simp [outs]
theorem outs_snoc (l : List Vis) (x : Vis) : outs (l ++ [x]) = outs l ++ x.out := by rw [outs_append, outs_cons, outs_nil, List.append_nil]
theorem vNs_outs_of : ∀ (l : List NT), (∀ x, x ∈ l → ∀ g o, outs (vN x g o) = fmtN x) → ∀ A i, outs (vNs l A i) = fmtNs l
  | [], _, A, i => by rw [vNs_nil, fmtNs_nil]; rfl
  | x :: r, h, A, i => by rw [vNs_cons, outs_append, fmtNs_cons, h x (by simp), vNs_outs_of r (fun y hy => h y (by simp [hy]))]
theorem vN_outs (t : NT) : Wn t → ∀ g o, outs (vN t g o) = fmtN t := by
  refine ind (M := fun t => Wn t → ∀ g o, outs (vN t g o) = fmtN t) (fun t h1 h2 h g o => ?_) t
  have hb := vNs_outs_of t.b (fun x hx => h1 x hx (h.body x hx)) t.A 0
  have hl := vNs_outs_of t.l (fun x hx => h2 x hx (h.els x hx)) t.B 0
  rw [vN_eq, outs_cons, outs_append, outs_cons, outs_append, outs_cons, outs_nil, hb, hl, fmtN_eq]
  show fmt ⟨t.k.toNat, 0, toL t.s, toL t.p, t.h⟩ ++ (fmtNs t.b ++ ((if t.e then fmt elT else []) ++ (fmtNs t.l ++ ((if blkI t.k then fmt edT else []) ++ [])))) = _
  cases hk : blkI t.k with
  | false =>
    obtain ⟨e1, e2⟩ := h.nb hk
    rw [e1, e2, h.ne e2, fmtNs_nil]
    simp
  | true =>
    cases he : t.e with
    | false => rw [h.ne he, fmtNs_nil]; simp
    | true => simp
theorem vNs_outs {l : List NT} (h : ∀ x, x ∈ l → Wn x) (A : Option Addr) (i : Nat) : outs (vNs l A i) = fmtNs l := vNs_outs_of l (fun x hx => vN_outs x (h x hx)) A i
/-! ### The structure, by its visits -/
/-- Two visits differ in nothing but offsets and what is in the nodes. -/
def alk (v w : Vis) : Prop := v.q = w.q ∧ v.t.k = w.t.k ∧ v.t.s = w.t.s ∧ v.t.p = w.t.p ∧ v.t.h = w.t.h ∧ v.t.e = w.t.e
def Alk : List Vis → List Vis → Prop
  | [], [] => True
  | v :: vs, w :: ws => alk v w ∧ Alk vs ws
  | _, _ => False
theorem Alk.append {a b c d : List Vis} : ∀ (h1 : Alk a b) (h2 : Alk c d), Alk (a ++ c) (b ++ d) := by
  induction a generalizing b with
  | nil => intro h1 h2; cases b with
    | nil => exact h2
    | cons _ _ => exact h1.elim
  | cons x a ih => intro h1 h2; cases b with
    | nil => exact h1.elim
    | cons y b => exact ⟨h1.1, ih h1.2 h2⟩
theorem Alk.len {a b : List Vis} : Alk a b → a.length = b.length := by
  induction a generalizing b with
  | nil => intro h; cases b with
    | nil => rfl
    | cons _ _ => exact h.elim
  | cons x a ih => intro h; cases b with
    | nil => exact h.elim
    | cons y b => simp [ih h.2]
theorem Alk.at_ {a b : List Vis} (h : Alk a b) {i : Nat} {x y : Vis} (hx : a[i]? = some x) (hy : b[i]? = some y) : alk x y := by
  induction a generalizing b i with
  | nil => simp at hx
  | cons v a ih => cases b with
    | nil => exact h.elim
    | cons u b =>
      cases i with
      | zero => simp at hx hy; subst hx hy; exact h.1
      | succ i => exact ih h.2 (by simpa using hx) (by simpa using hy)
end Go.Proofs.YtpcapmdfjmpdiaaGreatDoor

namespace Go.Proofs.YtpcapmdfjmpdiaaGreatDoor
open Go.RowKit Go.Shelf
set_option linter.unusedVariables false

section
variable {F : Fence} {n : Nat} {P : Program}
/-- How a round's body may be left: it goes on in a state that Nx lets; or it leaves by a jump. -/
def stPost {σ : Type} (B : Nat) (I : σ → World → Prop) (Ix : Code → World → Prop) (Nx : σ → Prop) (W : World) : Exit → Act → World → Prop
  | .normal, _, W' => KeepsFrom B W W' ∧ ∃ s, Nx s ∧ I s W'
  | .ret, _, W' => KeepsFrom B W W' ∧ Ix .ret W'
  | .exit id, _, W' => KeepsFrom B W W' ∧ Ix (.exit id) W'
  | .goto t, _, W' => KeepsFrom B W W' ∧ Ix (.goto t) W'
  | .panic _, _, _ => False
  | .outgrown, _, _ => False
/-- What an iterator is told of one round: from a state s, at the element x, yield answers and hands on. -/
def Rounds {σ V : Type} (F : Fence) (m : Nat) (P : Program) (l : Nat) (encs : V → Array Value) (Pre : σ → V → Prop) (Nx : σ → V → σ → Prop) (J : σ → World → Prop) (Jx : World → Prop) : Prop :=
  ∀ s x W, J s W → Pre s x → YieldAt F m P l (encs x) W fun e W' => (e = .returned (.bool true) ∧ ∃ s', Nx s x s' ∧ J s' W') ∨ (e = .returned (.bool false) ∧ Jx W')
/-- The iterator's contract: from the state s0 on it ends in a state of which Fin holds, or where a round has said 'no more'. -/
def Iterates {σ V : Type} (F : Fence) (m : Nat) (P : Program) (gf : Nat) (lb : Array Value) (encs : V → Array Value) (Pre : σ → V → Prop) (Nx : σ → V → σ → Prop) (I : σ → World → Prop) (s0 : σ) (Fin : σ → Prop) : Prop :=
  ∀ (l : Nat) (J : σ → World → Prop) (Jx : World → Prop), (∀ s W, J s W → I s W) → (∀ s W W', J s W → W.grownBy W' none → J s W') → (∀ W W', Jx W → W.grownBy W' none → Jx W') →
    Rounds F (m - 1) P l encs Pre Nx J Jx → ∀ W, J s0 W → CallsIn F m P gf (#[.func (.yield l) #[] #[]] ++ lb) W fun e W' => (∃ v, e = .returned v) ∧ ((∃ s, Fin s ∧ J s W') ∨ Jx W')
/-- The statement 'for .. := range g { .. }'. -/
theorem rangeFunc_st {σ V : Type} {g : Operand} {ps : Array Tmp} {assign body : Code} {Q : Exit → Act → World → Prop} {a : Act} {w : World}
    (hro : F.round = none) (h1 : 1 ≤ n) {gf : Nat} {lb : Array Value} (hg : a.eval g = .func (.func gf) #[] lb) (hFg : F.fn gf) (eg : ∀ args w, (callFunc gf args).run P w = .ok (.enter gf args) w)
    {encs : V → Array Value} {Pre : σ → V → Prop} {Nx : σ → V → σ → Prop} {I : σ → World → Prop} {s0 : σ} {Fin : σ → Prop} (hit : Iterates F (n - 1) P gf lb encs Pre Nx I s0 Fin) (hps : ∀ x, (encs x).size = ps.size)
    (Ix : Code → World → Prop) (hI : OwnFrom w.heap.size I) (hIx : ∀ c, OwnFrom w.heap.size (fun (_ : Unit) W => Ix c W)) (h0 : I s0 w) (Ax : σ → V → Act → World → Prop) (hAx : ∀ s x a', OwnFrom w.heap.size (fun (_ : Unit) W => Ax s x a' W))
    (hassign : ∀ (l : Nat) (s : σ) (x : V) (W : World) (K : Act → World → Prop), w.heap.size < W.heap.size → I s W → Pre s x → (∀ a' W', KeepsFrom w.heap.size W W' → Ax s x a' W' → K a' W') →
      assign.wpIn (F.inRound l) (n - 1 - 1) P (Exit.then K (fun _ _ _ => False)) { tmps := (ps.zip (encs x)).foldl (fun t (p, v) => t.setIfInBounds p v) a.tmps, defers := [] } W)
    (hbody : ∀ (l : Nat) (s : σ) (x : V) (a' : Act) (W : World), Ax s x a' W → body.wpIn (F.inRound l) (n - 1 - 1) P (stPost w.heap.size I Ix (Nx s x) W) a' W)
    (hdone : ∀ (D : Nat) (s : σ) (W : World), w.heap.size ≤ D → Fin s → I s W → W.heap[D]? = some (.deferred (some [])) → Q .normal { a with defers := { target := .collected D, args := #[] } :: a.defers } W)
    (hstop : ∀ (D : Nat) (c : Code) (W : World), w.heap.size ≤ D → Ix c W → W.heap[D]? = some (.deferred (some [])) → c.wpIn F n P Q { a with defers := { target := .collected D, args := #[] } :: a.defers } W) :
    (Code.rangeFunc g ps assign body).wpIn F n P Q a w := by
  refine wpIn_rangeFunc fun fn hfn => ?_
  rw [hro]
  obtain ⟨mk, hmk⟩ : ∃ mk : LoopState → Option Code → Loop, mk = fun st pe => { state := st, pending := pe, fn, tmps := a.tmps, params := ps, assign, body, defers := w.heap.size } := ⟨_, rfl⟩
  have hst : ∀ st pe, (mk st pe).state = st := fun st pe => by rw [hmk]
  have hpe : ∀ st pe, (mk st pe).pending = pe := fun st pe => by rw [hmk]
  have hset : ∀ st pe st', { mk st pe with state := st' } = mk st' pe := fun st pe st' => by rw [hmk]
  have hset2 : ∀ st pe st' pe', { mk st pe with state := st', pending := pe' } = mk st' pe' := fun st pe st' pe' => by rw [hmk]
  -- the two blocks of the law's own
  have blk : ∀ {A B : World} {k : Nat} {o : Obj} {row : Option Nat}, A.grownBy B row → row ≠ some k → A.heap[k]? = some o → B.heap[k]? = some o := fun hg hk h =>
    (hg.block _ (Array.getElem?_eq_some_iff.1 h).1 (Ne.symm hk)).trans h
  obtain ⟨d, hd⟩ : ∃ d, d = w.heap.size := ⟨_, rfl⟩
  obtain ⟨r, hr⟩ : ∃ r, r = d + 1 := ⟨_, rfl⟩
  obtain ⟨Bk, hBk⟩ : ∃ Bk : Loop → World → Prop, Bk = fun L W => W.heap[r]? = some (.loop L) ∧ W.heap[d]? = some (.deferred (some [])) := ⟨_, rfl⟩
  have hput : ∀ {L L' : Loop} {W : World}, Bk L W → Bk L' (W.putObj r (.loop L')) := fun {L L' W} h => by
    rw [hBk] at h ⊢
    exact ⟨World.putObj_heap_same (Array.getElem?_eq_some_iff.1 h.1).1, (World.putObj_heap_other (by omega)).trans h.2⟩
  have hIput : ∀ {L L' : Loop} {s : σ} {W : World}, Bk L W → I s W → I s (W.putObj r (.loop L')) := fun {L L' s W} h hi => by
    rw [hBk] at h
    exact hI.putObj _ hi (by omega) h.1 rfl
  have hXput : ∀ {L L' : Loop} {c : Code} {W : World}, Bk L W → Ix c W → Ix c (W.putObj r (.loop L')) := fun {L L' c W} h hi => by
    rw [hBk] at h
    exact (hIx c).putObj (s := ()) _ hi (by omega) h.1 rfl
  have hkeep : ∀ {L : Loop} {W W' : World}, Bk L W → KeepsFrom w.heap.size W W' → Bk L W' := fun {L W W'} h hk => by
    rw [hBk] at h ⊢
    exact ⟨hk.same _ _ (by omega) h.1 rfl, hk.same _ _ (by omega) h.2 rfl⟩
  refine ⟨r, [{ target := .collected d, args := #[] }], (w.alloc (.deferred (some []))).alloc (.loop (mk .ready none)), { target := .fn (.func gf) lb, args := #[.func (.yield r) #[] #[]] },
    (w.alloc (.deferred (some []))).alloc (.loop (mk .ready none)), gf, #[.func (.yield r) #[] #[]] ++ lb, (w.alloc (.deferred (some []))).alloc (.loop (mk .ready none)), ?_, ?_, ?_, ?_, fun _ => h1, ?_⟩
  · rw [hmk, hr, hd]; exact run_enterLoop_outer _ _ _ _ _
  · simp only [resolve, hg]
    simp [go_sem]
  · intro f' hf'; simp [Target.leads] at hf'; subst hf'; exact hFg
  · simp [invoke, go_sem, eg]
  · have hB0 : Bk (mk .ready none) ((w.alloc (.deferred (some []))).alloc (.loop (mk .ready none))) := by
      rw [hBk, hr, hd]
      have h1 := World.alloc_heap_new (w.alloc (.deferred (some []))) (.loop (mk .ready none))
      rw [World.size_alloc] at h1
      exact ⟨h1, (Below.heap_alloc _ _ _ (by simp)).trans (World.alloc_heap_new w _)⟩
    refine (hit r (fun s W => I s W ∧ Bk (mk .ready none) W) (fun W => ∃ c, Ix c W ∧ Bk (mk .done (some c)) W) (fun _ _ h => h.1)
      (fun s W W' h hg' => ⟨hI s W W' none h.1 hg' (fun _ e => by cases e), by
        have h2 := h.2
        rw [hBk] at h2 ⊢
        exact ⟨blk hg' (by simp) h2.1, blk hg' (by simp) h2.2⟩⟩)
      (fun W W' h hg' => by
        obtain ⟨c, hc, h2⟩ := h
        rw [hBk] at h2 ⊢
        exact ⟨c, hIx c () W W' none hc hg' (fun _ e => by cases e), blk hg' (by simp) h2.1, blk hg' (by simp) h2.2⟩) ?_ _ ⟨hI.alloc _ (hI.alloc _ h0), hB0⟩).mono ?_
    · rintro s x W ⟨hi, hb⟩ hx
      have hb' := hb
      rw [hBk] at hb'
      have hy := run_yield (P := P) (args := encs x) hb'.1 (by rw [hmk]; exact hps x)
      rw [hmk] at hy
      refine ⟨fn, _, assign, body, hy, roundIn_of_wpIn hfn (hassign _ s x W _ (by have := (Array.getElem?_eq_some_iff.1 hb'.1).1; omega) hi hx (fun a' Wa hka hax => ?_))⟩
      have hba := hkeep hb hka
      have hba' := hba
      rw [hBk] at hba'
      refine ⟨_, run_beginRound hba'.1 (hst _ _), ?_⟩
      rw [hset]
      refine wpIn_mono (hbody _ s x a' _ ((hAx s x a').putObj (s := ()) _ hax (by omega) hba'.1 rfl)) ?_
      have hb2 : Bk (mk .busy none) (Wa.putObj r (.loop (mk .busy none))) := hput hba
      have fin : ∀ (jump : Option Code) (W3 : World), KeepsFrom w.heap.size (Wa.putObj r (.loop (mk .busy none))) W3 →
          (Instr.endRound r jump).run P W3 = .ok (.bool jump.isNone) (W3.putObj r (.loop (mk (if jump.isNone then .ready else .done) jump))) ∧ Bk (mk .busy none) W3 := fun jump W3 hk3 => by
        have hb3 := hkeep hb2 hk3
        have hb4 := hb3
        rw [hBk] at hb4
        have := run_endRound (P := P) jump hb4.1
        rw [hset2] at this
        exact ⟨this, hb3⟩
      rintro e a3 W3 hp
      cases e with
      | normal =>
        obtain ⟨hk3, s', hs', hi3⟩ := hp
        obtain ⟨hr3, hb3⟩ := fin none W3 hk3
        exact ⟨_, _, hr3, .inl ⟨rfl, s', hs', hIput hb3 hi3, hput hb3⟩⟩
      | ret =>
        obtain ⟨hk3, hi3⟩ := hp
        obtain ⟨hr3, hb3⟩ := fin (some .ret) W3 hk3
        exact ⟨_, _, hr3, .inr ⟨rfl, .ret, hXput hb3 hi3, hput hb3⟩⟩
      | exit id =>
        obtain ⟨hk3, hi3⟩ := hp
        obtain ⟨hr3, hb3⟩ := fin (some (.exit id)) W3 hk3
        exact ⟨_, _, hr3, .inr ⟨rfl, .exit id, hXput hb3 hi3, hput hb3⟩⟩
      | goto t =>
        obtain ⟨hk3, hi3⟩ := hp
        obtain ⟨hr3, hb3⟩ := fin (some (.goto t)) W3 hk3
        exact ⟨_, _, hr3, .inr ⟨rfl, .goto t, hXput hb3 hi3, hput hb3⟩⟩
      | panic ch => exact hp.elim
      | outgrown => exact hp.elim
    · rintro e W2 ⟨⟨v, rfl⟩, ⟨s, hS, hi, hb⟩ | ⟨c, hi, hb⟩⟩
      · have hb' := hb
        rw [hBk] at hb'
        have he := run_endLoop (P := P) hb'.1 (by rw [hst]; simp)
        rw [hpe] at he
        have hb2 : Bk _ (W2.putObj r (.loop (mk .exhausted none))) := hput hb
        rw [hBk] at hb2
        rw [hset2] at he
        exact ⟨none, _, he, hdone d s _ (by omega) hS (hIput hb hi) hb2.2⟩
      · have hb' := hb
        rw [hBk] at hb'
        have he := run_endLoop (P := P) hb'.1 (by rw [hst]; simp)
        rw [hpe] at he
        have hb2 : Bk _ (W2.putObj r (.loop (mk .exhausted (some c)))) := hput hb
        rw [hBk] at hb2
        rw [hset2] at he
        exact ⟨some c, _, he, hstop d c _ (by omega) (hXput hb hi) hb2.2⟩
end
/-! ### The wide fence -/
theorem roundIn_wide {m m' : Nat} {P : Program} {l : Nat} {f : FuncId} {tmps : Array Value} {assign body : Code} {w : World} {R : Ending → World → Prop} (h : RoundIn Fence.wide m P l f tmps assign body w R) : RoundIn Fence.wide m' P l f tmps assign body w R :=
  ⟨h.1, fun c cs _ => h.2 c cs (room_wide _)⟩
theorem yieldAt_wide {m m' : Nat} {P : Program} {l : Nat} {args : Array Value} {W : World} {R : Ending → World → Prop} (h : YieldAt Fence.wide m P l args W R) : YieldAt Fence.wide m' P l args W R := by
  obtain ⟨fn, tmps, assign, body, hy, hR⟩ := h
  exact ⟨fn, tmps, assign, body, hy, roundIn_wide hR⟩
theorem yieldAt_mono {m : Nat} {P : Program} {l : Nat} {args : Array Value} {W : World} {R R' : Ending → World → Prop} (h : YieldAt Fence.wide m P l args W R) (hr : ∀ e w, R e w → R' e w) : YieldAt Fence.wide m P l args W R' := by
  obtain ⟨fn, tmps, assign, body, hy, hR⟩ := h
  exact ⟨fn, tmps, assign, body, hy, hR.mono hr⟩
end Go.Proofs.YtpcapmdfjmpdiaaGreatDoor

namespace Go.Proofs.YtpcapmdfjmpdiaaGreatDoor
open Go.RowKit Go.Shelf
set_option linter.unusedVariables false

section
variable {P : Program} {ops : Array Oper} {Q : Exit → Act → World → Prop} {n l : Nat}
end
end Go.Proofs.YtpcapmdfjmpdiaaGreatDoor

namespace Go.Proofs.YtpcapmdfjmpdiaaGreatDoor
open Go.RowKit Go.BigFrame Go.Shelf NT
set_option linter.unusedVariables false
set_option linter.unusedSimpArgs false
attribute [local go_sem] Oper.semAt_some

/-! ### What is asked of the states that the rounds go through -/
section
variable {σ : Type} (Pre : σ → Vis → Prop) (Nx : σ → Vis → σ → Prop) (Rd : σ → Nat → Nat → Value → Prop)
mutual
def runN : NT → Nat → Nat → σ → (σ → Prop) → Prop
  | .mk k a s p h e A c b B d l, g, o, s0, Q =>
    Pre s0 ⟨g, o, .mk k a s p h e A c b B d l, 0⟩ ∧ ∀ s1, Nx s0 ⟨g, o, .mk k a s p h e A c b B d l, 0⟩ s1 → ∃ A' c', b.length ≤ c' ∧ c' ≤ maxLen ∧ Rd s1 g (o + 6) (.slice A' b.length c') ∧ runNs b A' 0 s1 fun s2 =>
    Pre s2 ⟨g, o, .mk k a s p h e A c b B d l, 1⟩ ∧ ∀ s3, Nx s2 ⟨g, o, .mk k a s p h e A c b B d l, 1⟩ s3 → ∃ B' d', l.length ≤ d' ∧ d' ≤ maxLen ∧ Rd s3 g (o + 7) (.slice B' l.length d') ∧ runNs l B' 0 s3 fun s4 =>
    Pre s4 ⟨g, o, .mk k a s p h e A c b B d l, 2⟩ ∧ ∀ s5, Nx s4 ⟨g, o, .mk k a s p h e A c b B d l, 2⟩ s5 → Q s5
def runNs : List NT → Option Addr → Nat → σ → (σ → Prop) → Prop
  | [], _, _, s, Q => Q s
  | x :: r, A, i, s, Q => ∃ g o, A = some ⟨g, o, none⟩ ∧ runN x g (o + i * 8) s fun s' => runNs r A (i + 1) s' Q
end
theorem runN_eq (t : NT) (g o : Nat) (s0 : σ) (Q : σ → Prop) : runN Pre Nx Rd t g o s0 Q ↔
    (Pre s0 ⟨g, o, t, 0⟩ ∧ ∀ s1, Nx s0 ⟨g, o, t, 0⟩ s1 → ∃ A' c', t.b.length ≤ c' ∧ c' ≤ maxLen ∧ Rd s1 g (o + 6) (.slice A' t.b.length c') ∧ runNs Pre Nx Rd t.b A' 0 s1 fun s2 =>
      Pre s2 ⟨g, o, t, 1⟩ ∧ ∀ s3, Nx s2 ⟨g, o, t, 1⟩ s3 → ∃ B' d', t.l.length ≤ d' ∧ d' ≤ maxLen ∧ Rd s3 g (o + 7) (.slice B' t.l.length d') ∧ runNs Pre Nx Rd t.l B' 0 s3 fun s4 =>
      Pre s4 ⟨g, o, t, 2⟩ ∧ ∀ s5, Nx s4 ⟨g, o, t, 2⟩ s5 → Q s5) := by
  cases t
  rw [runN]
  exact Iff.rfl
theorem runNs_nil (A : Option Addr) (i : Nat) (s : σ) (Q : σ → Prop) : runNs Pre Nx Rd [] A i s Q ↔ Q s := by rw [runNs]
theorem runNs_cons (x : NT) (r : List NT) (A : Option Addr) (i : Nat) (s : σ) (Q : σ → Prop) : runNs Pre Nx Rd (x :: r) A i s Q ↔ ∃ g o, A = some ⟨g, o, none⟩ ∧ runN Pre Nx Rd x g (o + i * 8) s fun s' => runNs Pre Nx Rd r A (i + 1) s' Q := by rw [runNs]
end

section
variable {σ : Type} {Pre : σ → Vis → Prop} {Nx : σ → Vis → σ → Prop} {Rd : σ → Nat → Nat → Value → Prop} {J : σ → World → Prop} {Jx : World → Prop} {l : Nat}
abbrev vEnc (v : Vis) : Array Value := #[v.val]
/-- How a walk ends. -/
def WEnd (J : σ → World → Prop) (Jx : World → Prop) (Q : σ → Prop) (e : Ending) (W : World) : Prop := (e = .returned (.bool true) ∧ ∃ s, Q s ∧ J s W) ∨ (e = .returned (.bool false) ∧ Jx W)
/-- walk at the row A, with yield of loop l. -/
abbrev WCall (l : Nat) (A : Option Addr) (n c : Nat) (W : World) (R : Ending → World → Prop) : Prop := Calls Tryz.prog 62 #[.slice A n c, .func (.yield l) #[] #[]] W R
def WalkC (Pre : σ → Vis → Prop) (Nx : σ → Vis → σ → Prop) (Rd : σ → Nat → Nat → Value → Prop) (J : σ → World → Prop) (Jx : World → Prop) (l : Nat) (xs : List NT) : Prop :=
  ∀ (A : Option Addr) (c : Nat) (s : σ) (Q : σ → Prop) (W : World), xs.length ≤ c → c ≤ maxLen → runNs Pre Nx Rd xs A 0 s Q → J s W → WCall l A xs.length c W (WEnd J Jx Q)
/-- One node's visits, one behind the other, as the calls that they are. -/
def Steps (l g o nb nl : Nat) (Jx : World → Prop) (R : Ending → World → Prop) (W : World) : Prop :=
  YieldAt Fence.wide 0 Tryz.prog l #[.agg #[.pointer (some ⟨g, o, none⟩), .int .i64 0]] W fun e W1 => (e = .returned (.bool true) ∧ ∃ A c, W1.cell? ⟨g, o + 6, none⟩ = some (.slice A nb c) ∧
    WCall l A nb c W1 fun e W2 => (e = .returned (.bool true) ∧
      YieldAt Fence.wide 0 Tryz.prog l #[.agg #[.pointer (some ⟨g, o, none⟩), .int .i64 1]] W2 fun e W3 => (e = .returned (.bool true) ∧ ∃ B d, W3.cell? ⟨g, o + 7, none⟩ = some (.slice B nl d) ∧
        WCall l B nl d W3 fun e W4 => (e = .returned (.bool true) ∧
          YieldAt Fence.wide 0 Tryz.prog l #[.agg #[.pointer (some ⟨g, o, none⟩), .int .i64 2]] W4 R) ∨ (e = .returned (.bool false) ∧ Jx W4)) ∨ (e = .returned (.bool false) ∧ Jx W3)) ∨ (e = .returned (.bool false) ∧ Jx W2)) ∨ (e = .returned (.bool false) ∧ Jx W1)
theorem steps_of (hrd : ∀ s W, J s W → ∀ g o v, Rd s g o v → W.cell? ⟨g, o, none⟩ = some v) (hY : Rounds Fence.wide 0 Tryz.prog l vEnc Pre Nx J Jx) {x : NT} (hb : WalkC Pre Nx Rd J Jx l x.b) (hl : WalkC Pre Nx Rd J Jx l x.l)
    {g o : Nat} {s : σ} {Q : σ → Prop} {W : World} (hr : runN Pre Nx Rd x g o s Q) (hJ : J s W) : Steps l g o x.b.length x.l.length Jx (WEnd J Jx Q) W := by
  obtain ⟨p0, hr⟩ := (runN_eq Pre Nx Rd x g o s Q).1 hr
  refine yieldAt_mono (hY s ⟨g, o, x, 0⟩ W hJ p0) ?_
  rintro e W1 (⟨rfl, s1, n1, hJ1⟩ | ⟨rfl, hx⟩)
  case inr => exact .inr ⟨rfl, hx⟩
  obtain ⟨A, c, h1, h2, h3, hr⟩ := hr s1 n1
  refine .inl ⟨rfl, A, c, hrd s1 W1 hJ1 _ _ _ h3, (hb A c s1 _ W1 h1 h2 hr hJ1).mono ?_⟩
  rintro e W2 (⟨rfl, s2, ⟨p1, hr⟩, hJ2⟩ | ⟨rfl, hx⟩)
  case inr => exact .inr ⟨rfl, hx⟩
  refine .inl ⟨rfl, yieldAt_mono (hY s2 ⟨g, o, x, 1⟩ W2 hJ2 p1) ?_⟩
  rintro e W3 (⟨rfl, s3, n3, hJ3⟩ | ⟨rfl, hx⟩)
  case inr => exact .inr ⟨rfl, hx⟩
  obtain ⟨B, d, h4, h5, h6, hr⟩ := hr s3 n3
  refine .inl ⟨rfl, B, d, hrd s3 W3 hJ3 _ _ _ h6, (hl B d s3 _ W3 h4 h5 hr hJ3).mono ?_⟩
  rintro e W4 (⟨rfl, s4, ⟨p2, hr⟩, hJ4⟩ | ⟨rfl, hx⟩)
  case inr => exact .inr ⟨rfl, hx⟩
  refine .inl ⟨rfl, yieldAt_mono (hY s4 ⟨g, o, x, 2⟩ W4 hJ4 p2) ?_⟩
  rintro e W5 (⟨rfl, s5, n5, hJ5⟩ | ⟨rfl, hx⟩)
  case inr => exact .inr ⟨rfl, hx⟩
  exact .inl ⟨rfl, s5, hr s5 n5, hJ5⟩
set_option maxRecDepth 100000 in
set_option maxHeartbeats 3200000 in
theorem walk_row (xs : List NT) (hs : ∀ (x : NT), x ∈ xs → ∀ (g o : Nat) (s : σ) (Q : σ → Prop) (W : World), runN Pre Nx Rd x g o s Q → J s W → Steps l g o x.b.length x.l.length Jx (WEnd J Jx Q) W) : WalkC Pre Nx Rd J Jx l xs := by
  intro A c s Q W hc hcm hr hJ
  obtain ⟨n, hn⟩ : ∃ n, n = xs.length := ⟨_, rfl⟩
  unfold maxLen at hcm
  rw [← hn] at hc ⊢
  have HN := Lib.hid hn
  have HS := Lib.hid hs
  have HR := Lib.hid hr
  have HJ := Lib.hid hJ
  clear hn hs hr hJ
  refine (callsIn_wide (n := 0)).1 ?_
  refine callsIn_of_wp Tryz.func62 rfl trivial ?_ rfl
  simp only [Tryz.ntmps62, List.size_toArray, List.length_cons, List.length_nil, Nat.reduceAdd, Nat.reduceSub, Array.replicate_succ, Array.replicate_zero, List.push_toArray, List.append_toArray, List.nil_append, List.cons_append]
  gi_wp2
  gi_loopw [9] (fun s9 wr => ∃ (i : Nat) (s' : σ), i ≤ n ∧ s9 = .int .i64 i ∧ Hid (runNs Pre Nx Rd (xs.drop i) A i s' Q) ∧ Hid (J s' wr)) (fun s9 _ => n - (intOf s9).toNat)
  case atStart => exact ⟨0, s, Nat.zero_le _, rfl, Lib.hid (by rw [List.drop_zero]; exact HR.out), HJ⟩
  case round =>
    obtain ⟨i, s', hi, rfl, HR', HJ'⟩ := hrel
    by_cases hlt : i < n
    · obtain ⟨x, hx⟩ : ∃ x, xs[i]? = some x := ⟨_, List.getElem?_eq_getElem (by have := HN.out; omega)⟩
      have hd : xs.drop i = x :: xs.drop (i + 1) := by
        rw [List.drop_eq_getElem_cons (by have := HN.out; omega)]
        rw [List.getElem?_eq_getElem (by have := HN.out; omega)] at hx
        injection hx with hx
        rw [hx]
      have hr := HR'.out
      rw [hd, runNs_cons] at hr
      obtain ⟨g, o, rfl, hr⟩ := hr
      obtain ⟨fn, tmps, assign, body, hy, hS⟩ := HS.out x (List.mem_of_getElem? hx) g (o + i * 8) s' _ wr hr HJ'.out
      obtain ⟨nb, hnb⟩ : ∃ nb, nb = x.b.length := ⟨_, rfl⟩
      obtain ⟨nl, hnl⟩ : ∃ nl, nl = x.l.length := ⟨_, rfl⟩
      rw [← hnb, ← hnl] at hS
      have HY0 := Lib.hid hS
      clear hx hd hr hS hnb hnl HR' HJ'
      gi_wp2_with (first | ((try refine ⟨rfl, ?_⟩); refine RoundIn.mono (roundIn_wide HY0.out) ?_; clear HY0 hy; rintro e W1 (⟨rfl, A1, c1, hc1, hC1⟩ | ⟨rfl, hx1⟩)) | ((try refine ⟨trivial, ?_⟩); (try refine ⟨rfl, ?_⟩); gi_at_call 62; refine (callsIn_wide.2 hC1).mono ?_; clear hC1 hc1; rintro e W2 (⟨rfl, fn1, tmps1, assign1, body1, hy1, hR1⟩ | ⟨rfl, hx2⟩)) | ((try refine ⟨rfl, ?_⟩); refine RoundIn.mono (roundIn_wide hR1) ?_; clear hR1 hy1; rintro e W3 (⟨rfl, B1, d1, hd1, hC3⟩ | ⟨rfl, hx3⟩)) | ((try refine ⟨trivial, ?_⟩); (try refine ⟨rfl, ?_⟩); gi_at_call 62; refine (callsIn_wide.2 hC3).mono ?_; clear hC3 hd1; rintro e W4 (⟨rfl, fn2, tmps2, assign2, body2, hy2, hR2⟩ | ⟨rfl, hx4⟩)) | ((try refine ⟨rfl, ?_⟩); refine RoundIn.mono (roundIn_wide hR2) ?_; clear hR2 hy2; rintro e W5 (⟨rfl, s5, hq5, hJ5⟩ | ⟨rfl, hx5⟩)))
      · go_roundw
        case rel => exact ⟨i + 1, s5, by omega, by go_num, Lib.hid hq5, Lib.hid hJ5⟩
        case measure => simp [intOf]; omega
      all_goals
        repeat (first | (refine ⟨fun _ h => (by cases h), ?_⟩; gi_wp2_with fail) | (refine ⟨trivial, ?_⟩; gi_wp2_with fail))
        go_ret
        exact .inr ⟨rfl, by assumption⟩
    · obtain rfl : i = n := by omega
      have hq := HR'.out
      rw [List.drop_of_length_le (by have := HN.out; omega), runNs_nil] at hq
      have HQ := Lib.hid hq
      clear hq
      gi_wp2
      go_ret
      exact .inl ⟨rfl, s', HQ.out, HJ'.out⟩
/-- Whatever the nodes. -/
theorem walk_all (hrd : ∀ s W, J s W → ∀ g o v, Rd s g o v → W.cell? ⟨g, o, none⟩ = some v) (hY : Rounds Fence.wide 0 Tryz.prog l vEnc Pre Nx J Jx) (t : NT) : WalkC Pre Nx Rd J Jx l t.b ∧ WalkC Pre Nx Rd J Jx l t.l := by
  refine NT.ind (M := fun t => WalkC Pre Nx Rd J Jx l t.b ∧ WalkC Pre Nx Rd J Jx l t.l) (fun t h1 h2 => ⟨walk_row t.b ?_, walk_row t.l ?_⟩) t
  · exact fun x hx g o s Q W hr hJ => steps_of hrd hY (h1 x hx).1 (h1 x hx).2 hr hJ
  · exact fun x hx g o s Q W hr hJ => steps_of hrd hY (h2 x hx).1 (h2 x hx).2 hr hJ
theorem walk_c (hrd : ∀ s W, J s W → ∀ g o v, Rd s g o v → W.cell? ⟨g, o, none⟩ = some v) (hY : Rounds Fence.wide 0 Tryz.prog l vEnc Pre Nx J Jx) (xs : List NT) : WalkC Pre Nx Rd J Jx l xs :=
  walk_row xs fun x hx g o s Q W hr hJ => steps_of hrd hY (walk_all hrd hY x).1 (walk_all hrd hY x).2 hr hJ
end

/-! ### visits -/
theorem visits_c (A : Option Addr) (n c : Nat) (w : World) : Calls Tryz.prog 34 #[.slice A n c] w fun e w' =>
    e = .returned (.func (.func 61) #[] #[.pointer (some ⟨w.heap.size, 0, none⟩)]) ∧ w' = w.alloc (.cells #[.slice A n c] 38) := by
  go_enter Tryz.func34, Tryz.ntmps34
  go_wp2
  go_ret
  exact ⟨rfl, rfl⟩
set_option maxHeartbeats 1000000 in
/-- What visits hands back keeps its word: the states go as runNs says. -/
theorem visits_iterates {σ : Type} {Pre : σ → Vis → Prop} {Nx : σ → Vis → σ → Prop} {Rd : σ → Nat → Nat → Value → Prop} {I : σ → World → Prop} {s0 : σ} {Fin : σ → Prop} {xs : List NT} {A : Option Addr} {c bx m : Nat}
    (hc : xs.length ≤ c) (hcm : c ≤ maxLen) (hrd : ∀ s W, I s W → ∀ g o v, Rd s g o v → W.cell? ⟨g, o, none⟩ = some v) (hbx : ∀ W, I s0 W → W.cell? ⟨bx, 0, none⟩ = some (.slice A xs.length c)) (hrun : runNs Pre Nx Rd xs A 0 s0 Fin) :
    Iterates Fence.wide m Tryz.prog 61 #[.pointer (some ⟨bx, 0, none⟩)] vEnc Pre Nx I s0 Fin := by
  intro l J Jx hJI hJg hXg hY W hJ
  have HW := Lib.hid (walk_c (J := J) (Jx := Jx) (l := l) (fun s W h => hrd s W (hJI s W h)) (fun s x W h hp => yieldAt_wide (hY s x W h hp)) xs A c s0 Fin W hc hcm hrun hJ)
  have hb := hbx W (hJI s0 W hJ)
  obtain ⟨n, hn⟩ : ∃ n, n = xs.length := ⟨_, rfl⟩
  rw [← hn] at hb HW
  clear hY hrun hrd hbx hn hc hcm hJI hJg hXg hJ
  refine callsIn_of_wp Tryz.func61 rfl trivial ?_ rfl
  simp only [Tryz.ntmps61, List.size_toArray, List.length_cons, List.length_nil, Nat.reduceAdd, Nat.reduceSub, Array.replicate_succ, Array.replicate_zero, List.push_toArray, List.append_toArray, List.nil_append, List.cons_append]
  gi_wp2_with fail
  refine ⟨trivial, fun h => (by cases h), (callsIn_wide.2 HW.out).mono ?_⟩
  rintro e W1 (⟨rfl, hs1⟩ | ⟨rfl, hx1⟩)
  · gi_wp2_with fail
    go_end0
    exact ⟨⟨_, rfl⟩, .inl hs1⟩
  · gi_wp2_with fail
    go_end0
    exact ⟨⟨_, rfl⟩, .inr hx1⟩
end Go.Proofs.YtpcapmdfjmpdiaaGreatDoor

namespace Go.Proofs.YtpcapmdfjmpdiaaGreatDoor
open Go.RowKit Go.BigFrame Go.Shelf NT
set_option linter.unusedVariables false
set_option linter.unusedSimpArgs false

/-! ### What is true of each visit -/
theorem vNs_mem_of {P : Vis → Prop} : ∀ (r : List NT) (A : Option Addr) (i : Nat), (∀ j x, r[j]? = some x → ∀ v, v ∈ vN x (blkA A) (offA A + (i + j) * 8) → P v) → ∀ v, v ∈ vNs r A i → P v
  | [], A, i, _, v, hv => by rw [vNs_nil] at hv; cases hv
  | x :: r, A, i, h, v, hv => by
    rw [vNs_cons, List.mem_append] at hv
    rcases hv with hv | hv
    · exact h 0 x rfl v (by simpa using hv)
    · exact vNs_mem_of r A (i + 1) (fun j y hy v hv => h (j + 1) y (by simpa using hy) v (by rw [show i + (j + 1) = i + 1 + j by omega]; exact hv)) v hv
/-- The node of a visit lies where the visit says. -/
structure VOk (w : World) (v : Vis) : Prop where
  cells : v.t.Cells w v.g v.o
  lt : v.g < w.heap.size
  in_ : v.t.In w (Lt w)
  q : v.q ≤ 2
theorem vN_ok (t : NT) : ∀ (w : World), t.In w (Lt w) → ∀ g o, t.Cells w g o → g < w.heap.size → ∀ v, v ∈ vN t g o → VOk w v := by
  refine NT.ind (M := fun t => ∀ (w : World), t.In w (Lt w) → ∀ g o, t.Cells w g o → g < w.heap.size → ∀ v, v ∈ vN t g o → VOk w v) (fun t h1 h2 w hI g o hc hg v hv => ?_) t
  have row : ∀ (r : List NT) (A : Option Addr) (c : Nat), Row w (Lt w) A c r → (∀ x, x ∈ r → ∀ (w : World), x.In w (Lt w) → ∀ g o, x.Cells w g o → g < w.heap.size → ∀ v, v ∈ vN x g o → VOk w v) → ∀ v, v ∈ vNs r A 0 → VOk w v := fun r A c hR ih =>
    vNs_mem_of r A 0 fun j x hx v hv => by
      obtain ⟨g, o, rfl, hg, hc, hi⟩ := hR.at_ hx
      rw [Nat.zero_add] at hv
      exact ih x (List.mem_of_getElem? hx) w hi g (o + j * 8) hc hg v hv
  rw [vN_eq] at hv
  simp only [List.mem_cons, List.mem_append, List.not_mem_nil, or_false] at hv
  rcases hv with rfl | hv | rfl | hv | rfl
  · exact ⟨hc, hg, hI, by simp⟩
  · exact row t.b t.A t.c hI.body h1 v hv
  · exact ⟨hc, hg, hI, by simp⟩
  · exact row t.l t.B t.d hI.els h2 v hv
  · exact ⟨hc, hg, hI, by simp⟩
theorem vNs_ok {w : World} {A : Option Addr} {c : Nat} {l : List NT} (h : Row w (Lt w) A c l) : ∀ v, v ∈ vNs l A 0 → VOk w v :=
  vNs_mem_of l A 0 fun j x hx v hv => by
    obtain ⟨g, o, rfl, hg, hc, hi⟩ := h.at_ hx
    rw [Nat.zero_add] at hv
    exact vN_ok x w hi g (o + j * 8) hc hg v hv
theorem VOk.bel {w w' : World} {v : Vis} (h : VOk w v) (hb : Bel w w') : VOk w' v := ⟨h.cells.same fun p => hb.cell h.lt, Nat.lt_of_lt_of_le h.lt hb.size, h.in_.bel hb, h.q⟩
theorem vN_ng (t : NT) : Ng t → ∀ g o v, v ∈ vN t g o → Ng v.t := by
  refine NT.ind (M := fun t => Ng t → ∀ g o v, v ∈ vN t g o → Ng v.t) (fun t h1 h2 h g o v hv => ?_) t
  rw [vN_eq] at hv
  simp only [List.mem_cons, List.mem_append, List.not_mem_nil, or_false] at hv
  rcases hv with rfl | hv | rfl | hv | rfl
  · exact h
  · exact vNs_mem_of (P := fun v => Ng v.t) t.b t.A 0 (fun j x hx v hv => h1 x (List.mem_of_getElem? hx) (h.body x (List.mem_of_getElem? hx)) _ _ v hv) v hv
  · exact h
  · exact vNs_mem_of (P := fun v => Ng v.t) t.l t.B 0 (fun j x hx v hv => h2 x (List.mem_of_getElem? hx) (h.els x (List.mem_of_getElem? hx)) _ _ v hv) v hv
  · exact h
theorem vNs_ng {l : List NT} (h : ∀ x, x ∈ l → Ng x) (A : Option Addr) : ∀ v, v ∈ vNs l A 0 → Ng v.t :=
  vNs_mem_of (P := fun v => Ng v.t) l A 0 fun j x hx v hv => vN_ng x (h x (List.mem_of_getElem? hx)) _ _ v hv
/-! ### The states: what has come -/
def roPre (all pre : List Vis) (x : Vis) : Prop := ∃ rest, all = pre ++ x :: rest
def roNx (pre : List Vis) (x : Vis) (s : List Vis) : Prop := s = pre ++ [x]
def roRd (w : World) (_ : List Vis) (g o : Nat) (v : Value) : Prop := g < w.heap.size ∧ w.cell? ⟨g, o, none⟩ = some v
abbrev roN (all : List Vis) (w : World) : NT → Nat → Nat → List Vis → (List Vis → Prop) → Prop := runN (roPre all) roNx (roRd w)
abbrev roNs (all : List Vis) (w : World) : List NT → Option Addr → Nat → List Vis → (List Vis → Prop) → Prop := runNs (roPre all) roNx (roRd w)
theorem ro_row {all : List Vis} {w : World} (A : Option Addr) : ∀ (r : List NT) (i : Nat) (pre rest : List Vis) (Q : List Vis → Prop),
    (∀ j x, r[j]? = some x → ∃ g o, A = some ⟨g, o, none⟩ ∧ ∀ pre rest Q, all = pre ++ (vN x g (o + (i + j) * 8) ++ rest) → Q (pre ++ vN x g (o + (i + j) * 8)) → roN all w x g (o + (i + j) * 8) pre Q) →
    all = pre ++ (vNs r A i ++ rest) → Q (pre ++ vNs r A i) → roNs all w r A i pre Q
  | [], i, pre, rest, Q, h, ha, hq => by rw [vNs_nil, List.append_nil] at hq; exact (runNs_nil ..).2 hq
  | x :: r, i, pre, rest, Q, h, ha, hq => by
    obtain ⟨g, o, rfl, hx⟩ := h 0 x rfl
    rw [Nat.add_zero] at hx
    rw [vNs_cons] at ha hq
    refine (runNs_cons ..).2 ⟨g, o, rfl, ?_⟩
    refine hx pre (vNs r (some ⟨g, o, none⟩) (i + 1) ++ rest) _ (by rw [← List.append_assoc (vN _ _ _)]; exact ha) ?_
    refine ro_row (some ⟨g, o, none⟩) r (i + 1) _ rest Q (fun j y hy => ?_) (by rw [List.append_assoc, ← List.append_assoc (vN _ _ _)]; exact ha) (by rw [List.append_assoc]; exact hq)
    obtain ⟨g', o', e, h'⟩ := h (j + 1) y (by simpa using hy)
    rw [show i + (j + 1) = i + 1 + j by omega] at h'
    exact ⟨g', o', e, h'⟩
theorem ro_one (t : NT) : ∀ (all : List Vis) (w : World), t.In w (Lt w) → ∀ g o, t.Cells w g o → g < w.heap.size → ∀ pre rest Q, all = pre ++ (vN t g o ++ rest) → Q (pre ++ vN t g o) → roN all w t g o pre Q := by
  refine NT.ind (M := fun t => ∀ (all : List Vis) (w : World), t.In w (Lt w) → ∀ g o, t.Cells w g o → g < w.heap.size → ∀ pre rest Q, all = pre ++ (vN t g o ++ rest) → Q (pre ++ vN t g o) → roN all w t g o pre Q)
    (fun t h1 h2 all w hI g o hc hg pre rest Q ha hq => ?_) t
  have hB := hI.body
  have hE := hI.els
  obtain ⟨_, _, _, _, _, _, c6, c7⟩ := hc.all
  rw [vN_eq] at ha hq
  simp only [List.cons_append, List.append_assoc, List.nil_append] at ha hq
  refine (runN_eq ..).2 ⟨⟨_, ha⟩, ?_⟩
  rintro s1 rfl
  refine ⟨t.A, t.c, hB.1.1.1, hB.1.1.2.1, ⟨hg, c6⟩, ?_⟩
  refine ro_row t.A t.b 0 _ (⟨g, o, t, 1⟩ :: (vNs t.l t.B 0 ++ (⟨g, o, t, 2⟩ :: rest))) _ (fun j x hx => ?_) (by simpa using ha) ?_
  · obtain ⟨g', o', e, hg', hc', hi'⟩ := hB.at_ hx
    rw [Nat.zero_add]
    exact ⟨g', o', e, fun pre rest Q => h1 x (List.mem_of_getElem? hx) all w hi' g' _ hc' hg' pre rest Q⟩
  refine ⟨⟨vNs t.l t.B 0 ++ (⟨g, o, t, 2⟩ :: rest), by simpa using ha⟩, ?_⟩
  rintro s3 rfl
  refine ⟨t.B, t.d, hE.1.1.1, hE.1.1.2.1, ⟨hg, c7⟩, ?_⟩
  refine ro_row t.B t.l 0 _ (⟨g, o, t, 2⟩ :: rest) _ (fun j x hx => ?_) (by simpa using ha) ?_
  · obtain ⟨g', o', e, hg', hc', hi'⟩ := hE.at_ hx
    rw [Nat.zero_add]
    exact ⟨g', o', e, fun pre rest Q => h2 x (List.mem_of_getElem? hx) all w hi' g' _ hc' hg' pre rest Q⟩
  refine ⟨⟨rest, by simpa using ha⟩, ?_⟩
  rintro s5 rfl
  simpa using hq
theorem ro_all {w : World} {A : Option Addr} {c : Nat} {l : List NT} (h : Row w (Lt w) A c l) : roNs (vNs l A 0) w l A 0 [] (fun s => s = vNs l A 0) := by
  refine ro_row A l 0 [] [] _ (fun j x hx => ?_) (by simp) (by simp)
  obtain ⟨g, o, e, hg, hc, hi⟩ := h.at_ hx
  rw [Nat.zero_add]
  exact ⟨g, o, e, fun pre rest Q => ro_one x _ w hi g _ hc hg pre rest Q⟩
/-- visits at a row that is only read. -/
theorem ro_iterates {w : World} {A : Option Addr} {c : Nat} {l : List NT} (h : Row w (Lt w) A c l) {I : List Vis → World → Prop} {bx m : Nat} (hI : ∀ s W, I s W → Bel w W) (hbx : ∀ W, I [] W → W.cell? ⟨bx, 0, none⟩ = some (.slice A l.length c)) :
    Iterates Fence.wide m Tryz.prog 61 #[.pointer (some ⟨bx, 0, none⟩)] vEnc (roPre (vNs l A 0)) roNx I [] (fun s => s = vNs l A 0) :=
  visits_iterates (Rd := roRd w) h.1.1.1 h.1.1.2.1 (fun s W hs g o v hr => ((hI s W hs).cell hr.1).trans hr.2) hbx (ro_all h)
theorem roPre_mem {all pre : List Vis} {x : Vis} (h : roPre all pre x) : x ∈ all := by obtain ⟨r, rfl⟩ := h; simp
end Go.Proofs.YtpcapmdfjmpdiaaGreatDoor
