/-
  A range over a function whose rounds depend on where the iterator stands: a law of the walk. No program is imported here.
  A region that draws its order, within a round of a range over a function, out of the plain walk of the region (the fence that asks nothing). No program is imported here.
-/
import Derived.RangeFuncNested
import Derived.RangeFuncBound
import Derived.RangeFuncCalls
import Derived.RangeFuncLeaves
import Derived.Shelf.Abstract
import Derived.OwnWalkIn
import Derived.TacticsInMore
import Derived.LoopNIn
import Derived.LoopIn
import Derived.Test.YthbcjljkpnkakaaRegion2
namespace Go.Proofs.Ythbcjljkpnkakaa
open Go.RowKit Go.Shelf
set_option linter.unusedVariables false

section
variable {F : Fence} {n : Nat} {P : Program}
/-- How a round's body may be left: it goes on in a state that Nx lets; or it leaves by a jump. -/
def stPost {σ : Type} (B : Nat) (I : σ → World → Prop) (Ix : Code → World → Prop) (Nx : σ → Prop) (W : World) : Exit → Act → World → Prop
  | .normal, _, W' => KeepsFrom B W W' ∧ ∃ s, Nx s ∧ I s W'
  | .ret, _, W' => KeepsFrom B W W' ∧ Ix .ret W'
  | .exit id, _, W' => KeepsFrom B W W' ∧ Ix (.exit id) W'
  | .goto t, _, W' => KeepsFrom B W W' ∧ Ix (.goto t) W'
  | .panic _, _, _ => False
  | .outgrown, _, _ => False
/-- What an iterator is told of one round: from a state s, at the element x, yield answers and hands on. -/
def Rounds {σ V : Type} (F : Fence) (m : Nat) (P : Program) (l : Nat) (encs : V → Array Value) (Pre : σ → V → Prop) (Nx : σ → V → σ → Prop) (J : σ → World → Prop) (Jx : World → Prop) : Prop :=
  ∀ s x W, J s W → Pre s x → YieldAt F m P l (encs x) W fun e W' => (e = .returned (.bool true) ∧ ∃ s', Nx s x s' ∧ J s' W') ∨ (e = .returned (.bool false) ∧ Jx W')
/-- The iterator's contract: from the state s0 on it ends in a state of which Fin holds, or where a round has said 'no more'. -/
def Iterates {σ V : Type} (F : Fence) (m : Nat) (P : Program) (gf : Nat) (lb : Array Value) (encs : V → Array Value) (Pre : σ → V → Prop) (Nx : σ → V → σ → Prop) (I : σ → World → Prop) (s0 : σ) (Fin : σ → Prop) : Prop :=
  ∀ (l : Nat) (J : σ → World → Prop) (Jx : World → Prop), (∀ s W, J s W → I s W) → (∀ s W W', J s W → W.grownBy W' none → J s W') → (∀ W W', Jx W → W.grownBy W' none → Jx W') →
    Rounds F (m - 1) P l encs Pre Nx J Jx → ∀ W, J s0 W → CallsIn F m P gf (#[.func (.yield l) #[] #[]] ++ lb) W fun e W' => (∃ v, e = .returned v) ∧ ((∃ s, Fin s ∧ J s W') ∨ Jx W')

/-- The statement 'for .. := range g { .. }'. -/
theorem rangeFunc_st {σ V : Type} {g : Operand} {ps : Array Tmp} {assign body : Code} {Q : Exit → Act → World → Prop} {a : Act} {w : World}
    (hro : F.round = none) (h1 : 1 ≤ n) {gf : Nat} {lb : Array Value} (hg : a.eval g = .func (.func gf) #[] lb) (hFg : F.fn gf) (eg : ∀ args w, (callFunc gf args).run P w = .ok (.enter gf args) w)
    {encs : V → Array Value} {Pre : σ → V → Prop} {Nx : σ → V → σ → Prop} {I : σ → World → Prop} {s0 : σ} {Fin : σ → Prop} (hit : Iterates F (n - 1) P gf lb encs Pre Nx I s0 Fin) (hps : ∀ x, (encs x).size = ps.size)
    (Ix : Code → World → Prop) (hI : OwnFrom w.heap.size I) (hIx : ∀ c, OwnFrom w.heap.size (fun (_ : Unit) W => Ix c W)) (h0 : I s0 w) (Ax : σ → V → Act → World → Prop) (hAx : ∀ s x a', OwnFrom w.heap.size (fun (_ : Unit) W => Ax s x a' W))
    (hassign : ∀ (l : Nat) (s : σ) (x : V) (W : World) (K : Act → World → Prop), w.heap.size < W.heap.size → I s W → Pre s x → (∀ a' W', KeepsFrom w.heap.size W W' → Ax s x a' W' → K a' W') →
      assign.wpIn (F.inRound l) (n - 1 - 1) P (Exit.then K (fun _ _ _ => False)) { tmps := (ps.zip (encs x)).foldl (fun t (p, v) => t.setIfInBounds p v) a.tmps, defers := [] } W)
    (hbody : ∀ (l : Nat) (s : σ) (x : V) (a' : Act) (W : World), Ax s x a' W → body.wpIn (F.inRound l) (n - 1 - 1) P (stPost w.heap.size I Ix (Nx s x) W) a' W)
    (hdone : ∀ (D : Nat) (s : σ) (W : World), w.heap.size ≤ D → Fin s → I s W → W.heap[D]? = some (.deferred (some [])) → Q .normal { a with defers := { target := .collected D, args := #[] } :: a.defers } W)
    (hstop : ∀ (D : Nat) (c : Code) (W : World), w.heap.size ≤ D → Ix c W → W.heap[D]? = some (.deferred (some [])) → c.wpIn F n P Q { a with defers := { target := .collected D, args := #[] } :: a.defers } W) :
    (Code.rangeFunc g ps assign body).wpIn F n P Q a w := by
  refine wpIn_rangeFunc fun fn hfn => ?_
  rw [hro]
  obtain ⟨mk, hmk⟩ : ∃ mk : LoopState → Option Code → Loop, mk = fun st pe => { state := st, pending := pe, fn, tmps := a.tmps, params := ps, assign, body, defers := w.heap.size } := ⟨_, rfl⟩
  have hst : ∀ st pe, (mk st pe).state = st := fun st pe => by rw [hmk]
  have hpe : ∀ st pe, (mk st pe).pending = pe := fun st pe => by rw [hmk]
  have hset : ∀ st pe st', { mk st pe with state := st' } = mk st' pe := fun st pe st' => by rw [hmk]
  have hset2 : ∀ st pe st' pe', { mk st pe with state := st', pending := pe' } = mk st' pe' := fun st pe st' pe' => by rw [hmk]
  -- the two blocks of the law's own
  have blk : ∀ {A B : World} {k : Nat} {o : Obj} {row : Option Nat}, A.grownBy B row → row ≠ some k → A.heap[k]? = some o → B.heap[k]? = some o := fun hg hk h =>
    (hg.block _ (Array.getElem?_eq_some_iff.1 h).1 (Ne.symm hk)).trans h
  obtain ⟨d, hd⟩ : ∃ d, d = w.heap.size := ⟨_, rfl⟩
  obtain ⟨r, hr⟩ : ∃ r, r = d + 1 := ⟨_, rfl⟩
  obtain ⟨Bk, hBk⟩ : ∃ Bk : Loop → World → Prop, Bk = fun L W => W.heap[r]? = some (.loop L) ∧ W.heap[d]? = some (.deferred (some [])) := ⟨_, rfl⟩
  have hput : ∀ {L L' : Loop} {W : World}, Bk L W → Bk L' (W.putObj r (.loop L')) := fun {L L' W} h => by
    rw [hBk] at h ⊢
    exact ⟨World.putObj_heap_same (Array.getElem?_eq_some_iff.1 h.1).1, (World.putObj_heap_other (by omega)).trans h.2⟩
  have hIput : ∀ {L L' : Loop} {s : σ} {W : World}, Bk L W → I s W → I s (W.putObj r (.loop L')) := fun {L L' s W} h hi => by
    rw [hBk] at h
    exact hI.putObj _ hi (by omega) h.1 rfl
  have hXput : ∀ {L L' : Loop} {c : Code} {W : World}, Bk L W → Ix c W → Ix c (W.putObj r (.loop L')) := fun {L L' c W} h hi => by
    rw [hBk] at h
    exact (hIx c).putObj (s := ()) _ hi (by omega) h.1 rfl
  have hkeep : ∀ {L : Loop} {W W' : World}, Bk L W → KeepsFrom w.heap.size W W' → Bk L W' := fun {L W W'} h hk => by
    rw [hBk] at h ⊢
    exact ⟨hk.same _ _ (by omega) h.1 rfl, hk.same _ _ (by omega) h.2 rfl⟩
  refine ⟨r, [{ target := .collected d, args := #[] }], (w.alloc (.deferred (some []))).alloc (.loop (mk .ready none)), { target := .fn (.func gf) lb, args := #[.func (.yield r) #[] #[]] },
    (w.alloc (.deferred (some []))).alloc (.loop (mk .ready none)), gf, #[.func (.yield r) #[] #[]] ++ lb, (w.alloc (.deferred (some []))).alloc (.loop (mk .ready none)), ?_, ?_, ?_, ?_, fun _ => h1, ?_⟩
  · rw [hmk, hr, hd]; exact run_enterLoop_outer _ _ _ _ _
  · simp only [resolve, hg]
    simp [go_sem]
  · intro f' hf'; simp [Target.leads] at hf'; subst hf'; exact hFg
  · simp [invoke, go_sem, eg]
  · have hB0 : Bk (mk .ready none) ((w.alloc (.deferred (some []))).alloc (.loop (mk .ready none))) := by
      rw [hBk, hr, hd]
      have h1 := World.alloc_heap_new (w.alloc (.deferred (some []))) (.loop (mk .ready none))
      rw [World.size_alloc] at h1
      exact ⟨h1, (Below.heap_alloc _ _ _ (by simp)).trans (World.alloc_heap_new w _)⟩
    refine (hit r (fun s W => I s W ∧ Bk (mk .ready none) W) (fun W => ∃ c, Ix c W ∧ Bk (mk .done (some c)) W) (fun _ _ h => h.1)
      (fun s W W' h hg' => ⟨hI s W W' none h.1 hg' (fun _ e => by cases e), by
        have h2 := h.2
        rw [hBk] at h2 ⊢
        exact ⟨blk hg' (by simp) h2.1, blk hg' (by simp) h2.2⟩⟩)
      (fun W W' h hg' => by
        obtain ⟨c, hc, h2⟩ := h
        rw [hBk] at h2 ⊢
        exact ⟨c, hIx c () W W' none hc hg' (fun _ e => by cases e), blk hg' (by simp) h2.1, blk hg' (by simp) h2.2⟩) ?_ _ ⟨hI.alloc _ (hI.alloc _ h0), hB0⟩).mono ?_
    · rintro s x W ⟨hi, hb⟩ hx
      have hb' := hb
      rw [hBk] at hb'
      have hy := run_yield (P := P) (args := encs x) hb'.1 (by rw [hmk]; exact hps x)
      rw [hmk] at hy
      refine ⟨fn, _, assign, body, hy, roundIn_of_wpIn hfn (hassign _ s x W _ (by have := (Array.getElem?_eq_some_iff.1 hb'.1).1; omega) hi hx (fun a' Wa hka hax => ?_))⟩
      have hba := hkeep hb hka
      have hba' := hba
      rw [hBk] at hba'
      refine ⟨_, run_beginRound hba'.1 (hst _ _), ?_⟩
      rw [hset]
      refine wpIn_mono (hbody _ s x a' _ ((hAx s x a').putObj (s := ()) _ hax (by omega) hba'.1 rfl)) ?_
      have hb2 : Bk (mk .busy none) (Wa.putObj r (.loop (mk .busy none))) := hput hba
      have fin : ∀ (jump : Option Code) (W3 : World), KeepsFrom w.heap.size (Wa.putObj r (.loop (mk .busy none))) W3 →
          (Instr.endRound r jump).run P W3 = .ok (.bool jump.isNone) (W3.putObj r (.loop (mk (if jump.isNone then .ready else .done) jump))) ∧ Bk (mk .busy none) W3 := fun jump W3 hk3 => by
        have hb3 := hkeep hb2 hk3
        have hb4 := hb3
        rw [hBk] at hb4
        have := run_endRound (P := P) jump hb4.1
        rw [hset2] at this
        exact ⟨this, hb3⟩
      rintro e a3 W3 hp
      cases e with
      | normal =>
        obtain ⟨hk3, s', hs', hi3⟩ := hp
        obtain ⟨hr3, hb3⟩ := fin none W3 hk3
        exact ⟨_, _, hr3, .inl ⟨rfl, s', hs', hIput hb3 hi3, hput hb3⟩⟩
      | ret =>
        obtain ⟨hk3, hi3⟩ := hp
        obtain ⟨hr3, hb3⟩ := fin (some .ret) W3 hk3
        exact ⟨_, _, hr3, .inr ⟨rfl, .ret, hXput hb3 hi3, hput hb3⟩⟩
      | exit id =>
        obtain ⟨hk3, hi3⟩ := hp
        obtain ⟨hr3, hb3⟩ := fin (some (.exit id)) W3 hk3
        exact ⟨_, _, hr3, .inr ⟨rfl, .exit id, hXput hb3 hi3, hput hb3⟩⟩
      | goto t =>
        obtain ⟨hk3, hi3⟩ := hp
        obtain ⟨hr3, hb3⟩ := fin (some (.goto t)) W3 hk3
        exact ⟨_, _, hr3, .inr ⟨rfl, .goto t, hXput hb3 hi3, hput hb3⟩⟩
      | panic ch => exact hp.elim
      | outgrown => exact hp.elim
    · rintro e W2 ⟨⟨v, rfl⟩, ⟨s, hS, hi, hb⟩ | ⟨c, hi, hb⟩⟩
      · have hb' := hb
        rw [hBk] at hb'
        have he := run_endLoop (P := P) hb'.1 (by rw [hst]; simp)
        rw [hpe] at he
        have hb2 : Bk _ (W2.putObj r (.loop (mk .exhausted none))) := hput hb
        rw [hBk] at hb2
        rw [hset2] at he
        exact ⟨none, _, he, hdone d s _ (by omega) hS (hIput hb hi) hb2.2⟩
      · have hb' := hb
        rw [hBk] at hb'
        have he := run_endLoop (P := P) hb'.1 (by rw [hst]; simp)
        rw [hpe] at he
        have hb2 : Bk _ (W2.putObj r (.loop (mk .exhausted (some c)))) := hput hb
        rw [hBk] at hb2
        rw [hset2] at he
        exact ⟨some c, _, he, hstop d c _ (by omega) (hXput hb hi) hb2.2⟩
end
/-! ### The wide fence -/
theorem roundIn_wide {m m' : Nat} {P : Program} {l : Nat} {f : FuncId} {tmps : Array Value} {assign body : Code} {w : World} {R : Ending → World → Prop} (h : RoundIn Fence.wide m P l f tmps assign body w R) : RoundIn Fence.wide m' P l f tmps assign body w R :=
  ⟨h.1, fun c cs _ => h.2 c cs (room_wide _)⟩
theorem yieldAt_wide {m m' : Nat} {P : Program} {l : Nat} {args : Array Value} {W : World} {R : Ending → World → Prop} (h : YieldAt Fence.wide m P l args W R) : YieldAt Fence.wide m' P l args W R := by
  obtain ⟨fn, tmps, assign, body, hy, hR⟩ := h
  exact ⟨fn, tmps, assign, body, hy, roundIn_wide hR⟩
theorem yieldAt_mono {m : Nat} {P : Program} {l : Nat} {args : Array Value} {W : World} {R R' : Ending → World → Prop} (h : YieldAt Fence.wide m P l args W R) (hr : ∀ e w, R e w → R' e w) : YieldAt Fence.wide m P l args W R' := by
  obtain ⟨fn, tmps, assign, body, hy, hR⟩ := h
  exact ⟨fn, tmps, assign, body, hy, hR.mono hr⟩
end Go.Proofs.Ythbcjljkpnkakaa

namespace Go.Proofs.Ythbcjljkpnkakaa
open Go.RowKit Go.Shelf
set_option linter.unusedVariables false

section
variable {P : Program} {ops : Array Oper} {Q : Exit → Act → World → Prop} {n l : Nat}
/-- The fence that asks nothing, within a round. -/
abbrev inR (l : Nat) : Fence := Fence.wide.inRound l
theorem opIn_of_op {o : Oper} (hnd : ∀ c, o.op ≠ .defer c) {a : Act} {w : World} {K K' : Act → World → Prop} (hK : ∀ a w, K a w → K' a w) (h : o.wp P a w K Q) : o.wpIn (inR l) n P a w K' Q := by
  refine ⟨fun _ _ => trivial, ?_⟩
  rw [show (inR l).round = some l from rfl, Oper.semAt_some l a.eval o hnd]
  unfold Oper.wp at h
  generalize (execOp a.eval o).run P w = r at h
  cases r with
  | ok x w' =>
    cases x <;> simp only [Oper.upon] at h
    case value v => exact hK _ _ h
    case skip => exact hK _ _ h
    case defer d => exact hK _ _ h
    case enter f args =>
      refine ⟨fun hd => (by cases hd), (CallsIn.inRound l (callsIn_wide.2 h)).mono fun e w'' he => ?_⟩
      cases e with
      | returned v => exact hK _ _ he
      | panicked c => exact he
      | outgrown => exact he
    case row row args =>
      refine ⟨fun hd => (by cases hd), fun c cs hr => ?_⟩
      obtain ⟨v, w'', hR, hs⟩ := h c cs
      exact ⟨v, w'', hK _ _ hR, stepsIn_wide.2 hs⟩
  | halt x w' =>
    cases x <;> simp only [Oper.upon] at h
    case panic v => exact h
theorem opsIn_of_ops (hnd : ∀ (i : Nat) (o : Oper), ops[i]? = some o → ∀ c, o.op ≠ .defer c) (hQ : ¬ LetsOut Q) : ∀ (is : List Nat) (a : Act) (w : World), wpOps P ops Q is a w → wpOpsIn (inR l) n P ops Q is a w
  | [], _, _, h => h
  | i :: is, a, w, h => by
    simp only [wpOps] at h
    simp only [wpOpsIn]
    cases ho : ops[i]? with
    | none =>
      simp only [ho] at h ⊢
      exact opsIn_of_ops hnd hQ is a w h
    | some o =>
      simp only [ho] at h ⊢
      by_cases hw : Region.wanted o (yielded ops a.tmps) = true
      · rw [if_pos hw] at h ⊢
        rcases h with h | ⟨_, h⟩
        · exact opIn_of_op (hnd i o ho) (fun a' w' h' => opsIn_of_ops hnd hQ is a' w' h') h
        · exact absurd h hQ
      · rw [if_neg hw] at h ⊢
        exact ⟨fun _ _ => trivial, opsIn_of_ops hnd hQ is _ w h⟩
def noDefer (l : List Oper) : Bool := l.all fun o => match o.op with | .defer _ => false | _ => true
theorem noDefer_spec {l : List Oper} (h : noDefer l = true) (i : Nat) (o : Oper) (ho : l.toArray[i]? = some o) : ∀ c, o.op ≠ .defer c := by
  intro c hc
  have := List.all_eq_true.1 h o (List.mem_of_getElem? (by simpa using ho))
  rw [hc] at this
  cases this
/-- THE BEGINNING of a drawn region within a round: walked as anywhere. -/
theorem region_begin_round {T : List Nat} {id : Nat} {a : Act} {w : World} {lst : List Oper} (hm : P.follows .mixedOrders = true) (hnd : noDefer lst = true) (hQ : ¬ LetsOut Q)
    (h : wpAnyH P .any lst.toArray Q (Only T w.drew) lst.toArray.size (Array.replicate lst.toArray.size false) a w.drew) : (Code.region id lst.toArray true).wpIn (inR l) n P Q a w :=
  wpIn_region_draw fun t => by
    simp only [Region.schedule, hm, Bool.true_or, if_true]
    exact opsIn_of_ops (noDefer_spec hnd) hQ _ _ _ (wpAny_sound _ t _ a _ (wpAny_of_held _ _ _ _ h))
end
end Go.Proofs.Ythbcjljkpnkakaa
