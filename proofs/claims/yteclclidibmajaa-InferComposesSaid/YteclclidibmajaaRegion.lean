/-
  A region that draws its order, walked in ONE order: what only reads is taken as soon as it may come up, and the calls, one behind the other, may only add to the world (or turn the blocks T).
-/
import Derived.Test.YteclclidibmajaaBase
import Derived.OrdersHeld
import Derived.RegionTactic
import Derived.Deep.Quiet
import Derived.BigQuiet
namespace Go.Proofs.Yteclclidibmajaa
open Go.RowKit

section
variable {P : Program} {ops : Array Oper} {Q : Exit → Act → World → Prop}

/-- A world that comes later: of the blocks of w at most those of T have turned. -/
structure Later (T : List Nat) (w0 : World) where
  w : World
  h : Only T w0 w
instance {T : List Nat} {w0 : World} : Nonempty (Later T w0) := ⟨⟨w0, Only.refl _ _⟩⟩

/-- Operations that yield a value and call nothing. -/
def plainOp : Op → Bool
  | .move _ | .assign _ | .pick _ _ _ | .nilCheck _ | .binOp _ _ _ _ _ | .unOp _ _ _ | .convert _ _ _ | .fieldAddr _ _ _ | .field _ _ _ | .indexAddr _ _ _ | .index _ _ _ | .extract _ _ | .slice _ _ _ _ _ | .load _ _ | .makeInterface _ _ => true
  | .call c => (match c.callee with | .builtin .len | .builtin .cap | .builtin .min | .builtin .max => true | _ => false)
  | _ => false
theorem value_of {s : Sem Value} {w w' : World} {n : Next} (h : (do pure (Next.value (← s)) : Sem Next).run P w = .ok n w') : ∃ v, n = .value v := by
  rw [Sem.run_bind] at h
  cases hs : s.run P w with
  | ok v w1 =>
    rw [hs] at h
    simp only [Result.andThen, Sem.run_pure] at h
    injection h with h1 _
    exact ⟨v, h1.symm⟩
  | halt x w1 =>
    rw [hs] at h
    simp [Result.andThen] at h
theorem ok_bind {α β : Type} {s : Sem α} {f : α → Sem β} {w w' : World} {n : β} (h : (s >>= f).run P w = .ok n w') : ∃ x w1, (f x).run P w1 = .ok n w' := by
  rw [Sem.run_bind] at h
  cases hs : s.run P w with
  | ok v w1 =>
    rw [hs] at h
    exact ⟨v, w1, h⟩
  | halt x w1 =>
    rw [hs] at h
    simp [Result.andThen] at h
theorem pure_value {v : Value} {w w' : World} {n : Next} (h : (pure (Next.value v) : Sem Next).run P w = .ok n w') : ∃ v, n = .value v := by
  simp only [Sem.run_pure] at h
  injection h with h1 _
  exact ⟨v, h1.symm⟩
theorem panic_never {w w' : World} {n : Next} (h : (runtimePanic .nilDeref : Sem Next).run P w = .ok n w') : False := by
  simp [runtimePanic] at h
theorem plain_value {ρ : Operand → Value} {o : Oper} {w w' : World} {n : Next} (h : plainOp o.op = true) (hr : (execOp ρ o).run P w = .ok n w') : ∃ v, n = .value v := by
  obtain ⟨dst, op, type, pos, after, guard⟩ := o
  cases op <;> simp only [plainOp] at h <;> first | (cases h; done) | skip
  all_goals simp only [execOp] at hr
  all_goals first | exact value_of hr | skip
  · exact pure_value hr
  · exact pure_value hr
  · obtain ⟨_, _, h1⟩ := ok_bind hr
    exact pure_value h1
  · split at hr
    · exact (panic_never hr).elim
    · exact (panic_never hr).elim
    · exact (panic_never hr).elim
    · split at hr
      · exact (panic_never hr).elim
      · obtain ⟨_, _, h1⟩ := ok_bind hr
        obtain ⟨_, _, h2⟩ := ok_bind h1
        split at h2
        · obtain ⟨_, _, h3⟩ := ok_bind h2
          exact pure_value h3
        · exact pure_value h2
      · exact pure_value hr
    · exact pure_value hr
  · rename_i c
    obtain ⟨callee, args, argTypes⟩ := c
    split at h <;> first | (cases h; done) | skip
    all_goals
      rename_i hc
      simp only at hc
      subst hc
      simp only [resolve, Sem.run_bind, Sem.run_pure, Result.andThen, invoke, builtin] at hr
      exact value_of (by simpa only [Sem.run_bind, Sem.run_pure, Result.andThen] using hr)

/-- Operations 'is', one after the other, each with ONE value in every world of the class. -/
def wpSeg (P : Program) (ops : Array Oper) (C : World → Prop) (Q : Act → Prop) : List Nat → Act → Prop
  | [], a => Q a
  | i :: is, a => ∃ o, ops[i]? = some o ∧ if Region.wanted o (yielded ops a.tmps) = true then o.quiet P a C (wpSeg P ops C Q is) else wpSeg P ops C Q is (a.put o.dst undef)
theorem wpSeg_nil {C : World → Prop} {K : Act → Prop} {a : Act} (h : K a) : wpSeg P ops C K [] a := h
theorem wpSeg_want {C : World → Prop} {K : Act → Prop} {i : Nat} {is : List Nat} {a : Act} {o : Oper} (ho : ops[i]? = some o) (hw : Region.wanted o (yielded ops a.tmps) = true)
    (h : ∀ K' : Act → Prop, (∀ a', wpSeg P ops C K is a' → K' a') → o.quiet P a C K') : wpSeg P ops C K (i :: is) a :=
  ⟨o, ho, by rw [if_pos hw]; exact h _ (fun _ hh => hh)⟩
theorem wpSeg_skip {C : World → Prop} {K : Act → Prop} {i : Nat} {is : List Nat} {a : Act} {o : Oper} (ho : ops[i]? = some o) (hw : Region.wanted o (yielded ops a.tmps) = false)
    (h : wpSeg P ops C K is (a.put o.dst undef)) : wpSeg P ops C K (i :: is) a :=
  ⟨o, ho, by rw [if_neg (by rw [hw]; exact Bool.false_ne_true)]; exact h⟩

/-- The same along the region's own list: 'true' marks the operations that are taken. -/
def wpMask (P : Program) (ops : Array Oper) (C : World → Prop) (Q : Act → Prop) : List Bool → List Oper → Act → Prop
  | true :: m, o :: l, a => if Region.wanted o (yielded ops a.tmps) = true then o.quiet P a C (wpMask P ops C Q m l) else wpMask P ops C Q m l (a.put o.dst undef)
  | false :: m, _ :: l, a => wpMask P ops C Q m l a
  | _, _, a => Q a
theorem wpMask_nil {C : World → Prop} {K : Act → Prop} {a : Act} {l : List Oper} (h : K a) : wpMask P ops C K [] l a := h
theorem wpMask_pass {C : World → Prop} {K : Act → Prop} {m : List Bool} {a : Act} {o : Oper} {l : List Oper} (h : wpMask P ops C K m l a) : wpMask P ops C K (false :: m) (o :: l) a := h
theorem wpMask_want {C : World → Prop} {K : Act → Prop} {m : List Bool} {a : Act} {o : Oper} {l : List Oper} (hw : Region.wanted o (yielded ops a.tmps) = true)
    (h : ∀ K' : Act → Prop, (∀ a', wpMask P ops C K m l a' → K' a') → o.quiet P a C K') : wpMask P ops C K (true :: m) (o :: l) a := by
  unfold wpMask
  rw [if_pos hw]
  exact h _ (fun _ hh => hh)
theorem wpMask_skip {C : World → Prop} {K : Act → Prop} {m : List Bool} {a : Act} {o : Oper} {l : List Oper} (hw : Region.wanted o (yielded ops a.tmps) = false)
    (h : wpMask P ops C K m l (a.put o.dst undef)) : wpMask P ops C K (true :: m) (o :: l) a := by
  unfold wpMask
  rw [if_neg (by rw [hw]; exact Bool.false_ne_true)]
  exact h
def places : Nat → List Bool → List Nat
  | _, [] => []
  | k, true :: m => k :: places (k + 1) m
  | k, false :: m => places (k + 1) m
theorem wpSeg_of_mask {C : World → Prop} {K : Act → Prop} : ∀ (m : List Bool) (l : List Oper) (k : Nat) (a : Act), (∀ j, ops[k + j]? = l[j]?) → k + m.length ≤ ops.size → wpMask P ops C K m l a → wpSeg P ops C K (places k m) a
  | [], _, _, _, _, _, h => h
  | b :: m, [], k, a, hl, hm, _ => by
    have := hl 0
    rw [Nat.add_zero, List.getElem?_nil] at this
    have hk : ops.size ≤ k := Array.getElem?_eq_none_iff.1 this
    simp at hm
    omega
  | true :: m, o :: l, k, a, hl, hm, h => by
    have ho : ops[k]? = some o := by have := hl 0; simpa using this
    have hl' : ∀ j, ops[k + 1 + j]? = l[j]? := fun j => by have := hl (j + 1); rw [List.getElem?_cons_succ] at this; rw [← this]; congr 1; omega
    have hm' : k + 1 + m.length ≤ ops.size := by simp at hm; omega
    refine ⟨o, ho, ?_⟩
    unfold wpMask at h
    split
    · rename_i hw
      rw [if_pos hw] at h
      exact Oper.quiet_mono (fun a' h' => wpSeg_of_mask m l (k + 1) a' hl' hm' h') h
    · rename_i hw
      rw [if_neg hw] at h
      exact wpSeg_of_mask m l (k + 1) _ hl' hm' h
  | false :: m, o :: l, k, a, hl, hm, h => by
    have hl' : ∀ j, ops[k + 1 + j]? = l[j]? := fun j => by have := hl (j + 1); rw [List.getElem?_cons_succ] at this; rw [← this]; congr 1; omega
    have hm' : k + 1 + m.length ≤ ops.size := by simp at hm; omega
    exact wpSeg_of_mask m l (k + 1) a hl' hm' h

/-- May the operations 'is' be taken in this order, each before all else that waits? Do they only read? -/
def segOk (ops : Array Oper) : List Nat → Array Bool → Bool
  | [], _ => true
  | i :: is, listed => Region.free .any ops listed i && (Region.ready .any ops listed).contains i && ((ops[i]?).map (plainOp ·.op)).getD false && segOk ops is (listed.setIfInBounds i true)
def marked (listed : Array Bool) (is : List Nat) : Array Bool := is.foldl (fun l i => l.setIfInBounds i true) listed

theorem take_list {C S : World → Prop} (hCS : ∀ w, S w → C w) (hs : Region.noSelect ops = true) (hQ : ∀ c (a : Act) d v w, Q (.panic c) (a.put d v) w → Q (.panic c) a w) :
    ∀ (is : List Nat) (fuel : Nat) (listed : Array Bool) (a : Act) (w : World), segOk ops is listed = true → S w →
      wpSeg P ops C (fun b => wpAnyH P .any ops Q S fuel (marked listed is) b w) is a → wpAnyH P .any ops Q S (fuel + is.length) listed a w
  | [], fuel, listed, a, w, _, _, h => h
  | i :: is, fuel, listed, a, w, hok, hS, ⟨o, ho, h⟩ => by
    simp only [segOk, Bool.and_eq_true] at hok
    obtain ⟨⟨⟨hf, hr⟩, hp⟩, hok'⟩ := hok
    rw [ho] at hp
    simp only [Option.map_some, Option.getD_some] at hp
    rw [List.length_cons, ← Nat.add_assoc]
    by_cases hw : Region.wanted o (yielded ops a.tmps) = true
    · rw [if_pos hw] at h
      obtain ⟨v, hv, hn⟩ := h
      refine wpAnyH_take ho hs hf hr (fun c a w hh => hQ _ _ _ _ _ hh) (v := v) (.inl ⟨hw, fun w' hS' => ?_⟩) hS (take_list hCS hs hQ is fuel _ _ w hok' hS hn)
      have h3 := hv w' (hCS _ hS')
      unfold Oper.quietAt at h3
      cases hrun : (execOp a.eval o).run P w' with
      | halt x w1 => rw [hrun] at h3; exact absurd h3 (by simp [Oper.quietUpon])
      | ok n w1 =>
        obtain ⟨u, rfl⟩ := plain_value hp hrun
        rw [hrun] at h3
        simp only [Oper.quietUpon] at h3
        rw [h3.1, h3.2]
    · rw [if_neg hw] at h
      exact wpAnyH_take ho hs hf hr (fun c a w hh => hQ _ _ _ _ _ hh) (v := undef) (.inr ⟨by simpa using hw, rfl⟩) hS (take_list hCS hs hQ is fuel _ _ w hok' hS h)

theorem wpAnyH_mono {S S' : World → Prop} (hS : ∀ w, S' w → S w) : ∀ (fuel : Nat) (listed : Array Bool) (a : Act) (w : World),
    wpAnyH P .any ops Q S' fuel listed a w → wpAnyH P .any ops Q S fuel listed a w
  | 0, _, _, _, h => h
  | fuel + 1, _, _, _, h => ⟨h.1, fun i hi => wpOp_mono (fun a' w' h' => ⟨hS _ h'.1, wpAnyH_mono hS fuel _ a' w' h'.2⟩) (h.2 i hi)⟩

/-- THE BEGINNING. The region goes on from the world behind the draw. -/
theorem region_begin {T : List Nat} {id : Nat} {a : Act} {w : World} (hm : P.follows .mixedOrders = true)
    (h : wpAnyH P .any ops Q (Only T w.drew) ops.size (Array.replicate ops.size false) a w.drew) : (Code.region id ops true).wp P Q a w := wp_region_held hm h

/-- SOME OPERATIONS THAT ONLY READ. -/
theorem region_seg {T : List Nat} (m : List Bool) {listed : Array Bool} {fuel : Nat} (fuel' : Nat) {a : Act} {w : World} {l : List Oper} (hs : Region.noSelect l.toArray = true) (hm : (decide (m.length ≤ l.length)) = true)
    (hok : segOk l.toArray (places 0 m) listed = true)
    (hf : fuel' + (places 0 m).length = fuel) (hQ : ∀ c (a : Act) d v w, Q (.panic c) (a.put d v) w → Q (.panic c) a w)
    (h : wpMask P l.toArray (fun w' => ∃ x : Later T w, w' = x.w) (fun b => wpAnyH P .any l.toArray Q (Only T w) fuel' (marked listed (places 0 m)) b w) m l a) : wpAnyH P .any l.toArray Q (Only T w) fuel listed a w := by
  subst hf
  refine take_list (fun w' h' => ⟨⟨w', h'⟩, rfl⟩) hs hQ (places 0 m) fuel' listed a w hok (Only.refl _ _) (wpSeg_of_mask m l 0 a (fun j => by simp) ?_ h)
  have := of_decide_eq_true hm
  simpa using this

/-- A CALL of a Go function that returns; nothing else may come up. -/
theorem region_call {T : List Nat} (e : Nat) {listed : Array Bool} {fuel : Nat} {a : Act} {w : World} {o : Oper} {f : FuncId} {args : Array Value} (hr : Region.ready .any ops listed = [e])
    (ho : ops[e]? = some o) (hw : Region.wanted o (yielded ops a.tmps) = true) (hrun : (execOp a.eval o).run P w = .ok (.enter f args) w)
    (hc : Calls P f args w fun x w1 => ∃ v, x = .returned v ∧ Only T w w1 ∧ wpAnyH P .any ops Q (Only T w1) fuel (listed.setIfInBounds e true) (a.put o.dst v) w1) :
    wpAnyH P .any ops Q (Only T w) (fuel + 1) listed a w := by
  refine wpAnyH_all hr (by simp) (fun i hi => ?_)
  simp only [List.mem_singleton] at hi
  subst hi
  unfold wpOp
  simp only [ho, hw, if_true]
  refine .inl ?_
  unfold Oper.wp
  rw [hrun]
  simp only [Oper.upon]
  refine hc.mono ?_
  rintro x w1 ⟨v, rfl, hO, h⟩
  exact ⟨hO, wpAnyH_mono (fun w2 h2 => hO.trans h2) _ _ _ _ h⟩

/-- An operation that MAKES something (or writes to T); nothing else may come up. -/
theorem region_make {T : List Nat} (e : Nat) {listed : Array Bool} {fuel : Nat} {a : Act} {w w1 : World} {o : Oper} {v : Value} (hr : Region.ready .any ops listed = [e])
    (ho : ops[e]? = some o) (hw : Region.wanted o (yielded ops a.tmps) = true) (hrun : (execOp a.eval o).run P w = .ok (.value v) w1) (hO : Only T w w1)
    (h : wpAnyH P .any ops Q (Only T w1) fuel (listed.setIfInBounds e true) (a.put o.dst v) w1) :
    wpAnyH P .any ops Q (Only T w) (fuel + 1) listed a w := by
  refine wpAnyH_all hr (by simp) (fun i hi => ?_)
  simp only [List.mem_singleton] at hi
  subst hi
  unfold wpOp
  simp only [ho, hw, if_true]
  refine .inl ?_
  unfold Oper.wp
  rw [hrun]
  simp only [Oper.upon]
  exact ⟨hO, wpAnyH_mono (fun w2 h2 => hO.trans h2) _ _ _ _ h⟩

/-- A STORE into T, or into what was made; nothing else may come up. -/
theorem region_store {T : List Nat} (e : Nat) {listed : Array Bool} {fuel : Nat} {a : Act} {w w1 : World} {o : Oper} (hr : Region.ready .any ops listed = [e])
    (ho : ops[e]? = some o) (hw : Region.wanted o (yielded ops a.tmps) = true) (hrun : (execOp a.eval o).run P w = .ok .skip w1) (hO : Only T w w1)
    (h : wpAnyH P .any ops Q (Only T w1) fuel (listed.setIfInBounds e true) (a.put o.dst undef) w1) :
    wpAnyH P .any ops Q (Only T w) (fuel + 1) listed a w := by
  refine wpAnyH_all hr (by simp) (fun i hi => ?_)
  simp only [List.mem_singleton] at hi
  subst hi
  unfold wpOp
  simp only [ho, hw, if_true]
  refine .inl ?_
  unfold Oper.wp
  rw [hrun]
  simp only [Oper.upon]
  exact ⟨hO, wpAnyH_mono (fun w2 h2 => hO.trans h2) _ _ _ _ h⟩

/-- THE END. -/
theorem region_end {S : World → Prop} {fuel : Nat} {listed : Array Bool} {a : Act} {w : World} (hr : Region.ready .any ops listed = []) (h : Q .normal a w) : wpAnyH P .any ops Q S fuel listed a w :=
  wpAnyH_done hr h fuel
end

end Go.Proofs.Yteclclidibmajaa
