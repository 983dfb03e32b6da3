/-
  The nodes of a list of tokens as the program's parser comes to them: a list ends at any Else or End, and whoever asked for it looks at that token. No program is imported here.
  A deferred function's region that begins with recover: behind it the region is walked as any other. No program is imported here.
  A region that draws its order, walked in one order, where something about the world stands through all of it: variables that are read and then written with what they hold. No program is imported here.
-/
import Derived.Test.YthbcjljkpnkakaaDoorNpure
import Derived.Recover
import Derived.Tactics
import Derived.Test.YthbcjljkpnkakaaDoorRegion
namespace Go.Proofs.YthbcjljkpnkakaaDoor
open NT
set_option linter.unusedVariables false
set_option linter.unusedSimpArgs false

/-- What the caller makes of the token that ended a list. -/
def fin (op : Nat) (ie : Bool) : PR → PR
  | .error e => .error e
  | .ok (l, [], c) => .ok (l, [], c)
  | .ok (l, u :: r, c) => if u.k = 7 then (if op = 2 ∧ ie = false then .ok (l, u :: r, c) else .error (u.a, 13)) else (if op = 0 then .error (u.a, 13) else .ok (l, u :: r, c))
theorem fin_cons (op : Nat) (ie : Bool) (x : NT) (r : PR) : fin op ie (r.cons x) = (fin op ie r).cons x := by
  cases r with
  | error e => rfl
  | ok y =>
    obtain ⟨l, ts, c⟩ := y
    cases ts with
    | nil => rfl
    | cons u r =>
      simp only [PR.cons, fin]
      split
      · split <;> rfl
      · split <;> rfl
theorem pl_conv (op : Nat) (ie : Bool) : ∀ (f : Nat) (ts : List Tok) (d c : Nat), pl f ts op ie d c = fin op ie (pl f ts 2 false d c)
  | 0, _, _, _ => rfl
  | f + 1, [], _, _ => rfl
  | f + 1, t :: r, d, c => by
    unfold pl
    by_cases h7 : t.k = 7
    · rw [if_pos h7, if_pos h7, if_pos (show (2 : Nat) = 2 ∧ false = false from ⟨rfl, rfl⟩)]
      simp only [fin]
      rw [if_pos h7]
    rw [if_neg h7, if_neg h7]
    by_cases h8 : t.k = 8
    · rw [if_pos h8, if_pos h8, if_neg (show ¬ ((2 : Nat) = 0) by decide)]
      simp only [fin]
      rw [if_neg h7]
    rw [if_neg h8, if_neg h8]
    by_cases hn : t.k = 6 ∧ 0 < d ∨ blk t.k = true ∧ 32 ≤ d
    · rw [if_pos hn, if_pos hn]; rfl
    rw [if_neg hn, if_neg hn]
    by_cases hc : 4096 ≤ c
    · rw [if_pos hc, if_pos hc]; rfl
    rw [if_neg hc, if_neg hc]
    cases hb : blk t.k with
    | false => rw [if_pos rfl, if_pos rfl, fin_cons, pl_conv op ie f r]
    | true =>
      rw [if_neg (by decide), if_neg (by decide)]
      cases hp : pl f r t.k false (d + 1) (c + 1) with
      | error e => rfl
      | ok x =>
        obtain ⟨b, r1, c1⟩ := x
        cases r1 with
        | nil => rfl
        | cons u r2 =>
          dsimp only
          by_cases hu : u.k = 7
          · rw [if_pos hu, if_pos hu]
            cases hp2 : pl f r2 t.k true (d + 1) c1 with
            | error e => rfl
            | ok x =>
              obtain ⟨b2, r3, c2⟩ := x
              cases r3 with
              | nil => rfl
              | cons v r4 => dsimp only; rw [fin_cons, pl_conv op ie f r4]
          · rw [if_neg hu, if_neg hu, fin_cons, pl_conv op ie f r2]
/-- A list is what it is up to any Else or End, and then what the caller makes of that token. -/
theorem P_conv (ts : List Tok) (op : Nat) (ie : Bool) (d c : Nat) : P ts op ie d c = fin op ie (P ts 2 false d c) := pl_conv op ie _ ts d c

abbrev NXR := Except (Nat × Nat) (NT × List Tok × Nat)
/-- One node: t is its token, r what is behind it. -/
def NX (t : Tok) (r : List Tok) (d c : Nat) : NXR :=
  if t.k = 6 ∧ 0 < d ∨ blk t.k = true ∧ 32 ≤ d then .error (t.a, 13)
  else if 4096 ≤ c then .error (t.a, 14)
  else if blk t.k = false then .ok (nd t false [] [], r, c + 1)
  else match P r 2 false (d + 1) (c + 1) with
    | .error e => .error e
    | .ok (b, [], _) => .error (t.a, 7)
    | .ok (b, u :: r2, c1) =>
      if u.k = 7 then
        (if t.k = 2 then match P r2 2 false (d + 1) c1 with
          | .error e => .error e
          | .ok (b2, [], _) => .error (t.a, 7)
          | .ok (b2, v :: r4, c2) => if v.k = 7 then .error (v.a, 13) else .ok (nd t true b b2, r4, c2)
        else .error (u.a, 13))
      else .ok (nd t false b [], r2, c1)
theorem P_nx {t : Tok} {r : List Tok} {d c : Nat} (h7 : t.k ≠ 7) (h8 : t.k ≠ 8) : P (t :: r) 2 false d c = match NX t r d c with
    | .error e => .error e
    | .ok (x, r', c') => (P r' 2 false d c').cons x := by
  unfold NX
  by_cases hn : t.k = 6 ∧ 0 < d ∨ blk t.k = true ∧ 32 ≤ d
  · rw [if_pos hn, P_nest h7 h8 hn]
  rw [if_neg hn]
  by_cases hc : 4096 ≤ c
  · rw [if_pos hc, P_many h7 h8 hn hc]
  rw [if_neg hc]
  cases hb : blk t.k with
  | false => rw [if_pos rfl, P_leaf h7 h8 (by omega) hb]
  | true =>
    rw [if_neg (by decide), P_step_block hn (by omega) hb, P_conv r t.k false]
    have h0 : t.k ≠ 0 := by intro h; rw [h] at hb; cases hb
    cases hp : P r 2 false (d + 1) (c + 1) with
    | error e => rfl
    | ok x =>
      obtain ⟨b, r1, c1⟩ := x
      cases r1 with
      | nil => rfl
      | cons u r2 =>
        simp only [fin]
        by_cases hu : u.k = 7
        · rw [if_pos hu, if_pos hu]
          by_cases h2 : t.k = 2
          · rw [if_pos ⟨h2, trivial⟩, if_pos h2]
            dsimp only
            rw [if_pos hu, P_conv r2 t.k true]
            cases hp2 : P r2 2 false (d + 1) c1 with
            | error e => rfl
            | ok x =>
              obtain ⟨b2, r3, c2⟩ := x
              cases r3 with
              | nil => rfl
              | cons v r4 =>
                simp only [fin]
                by_cases hv : v.k = 7
                · rw [if_pos hv, if_neg (fun h => by cases h.2), if_pos hv]
                · rw [if_neg hv, if_neg h0, if_neg hv]
          · rw [if_neg (fun h => h2 h.1), if_neg h2]
        · rw [if_neg hu, if_neg hu, if_neg h0]
          dsimp only
          rw [if_neg hu]
theorem nx_good {t : Tok} {r : List Tok} {d c : Nat} {x : NT} {r' : List Tok} {c' : Nat} (h : NX t r d c = .ok (x, r', c')) (hc : c ≤ 4096) (hd : d ≤ 32) : r'.length ≤ r.length ∧ c' ≤ 4096 := by
  unfold NX at h
  split at h
  · cases h
  rename_i hn
  split at h
  · cases h
  rename_i hc4
  split at h
  · simp at h; obtain ⟨_, rfl, rfl⟩ := h; exact ⟨Nat.le_refl _, by omega⟩
  rename_i hb
  have hb : blk t.k = true := by simpa using hb
  have hd32 : d + 1 ≤ 32 := by
    rcases Nat.lt_or_ge d 32 with h1 | h1
    · omega
    · exact absurd (.inr ⟨hb, h1⟩) hn
  split at h
  · cases h
  · cases h
  · rename_i b u r2 c1 hp
    have h1 := P_rest hp
    have h2 := P_good hp (by omega) hd32
    simp only [List.length_cons] at h1
    split at h
    · split at h
      · split at h
        · cases h
        · cases h
        · rename_i b2 v r4 c2 hp2
          have h3 := P_rest hp2
          have h4 := P_good hp2 h2.2.1 hd32
          simp only [List.length_cons] at h3
          split at h
          · cases h
          · simp at h; obtain ⟨_, rfl, rfl⟩ := h
            exact ⟨by omega, h4.2.1⟩
      · cases h
    · simp at h; obtain ⟨_, rfl, rfl⟩ := h
      exact ⟨by omega, h2.2.1⟩
end Go.Proofs.YthbcjljkpnkakaaDoor

namespace Go.Proofs.YthbcjljkpnkakaaDoor
open Go
set_option linter.unusedVariables false

theorem wpS_region_recover {P : Program} {Q : Exit → Act → List Frame → World → Prop} {a : Act} {cs cs' : List Frame} {w : World} {id : Nat} {ops : Array Oper} {o : Oper} {rest : List Oper} (hl : ops.toList = o :: rest)
    (hw : Region.wanted o (yielded ops a.tmps) = true) (hr : (execOp a.eval o).run P w = .ok .recover w) (v : Value) (hc : recoverD cs = some (v, cs') ∨ (recoverD cs = none ∧ v = .nilIface ∧ cs' = cs))
    (h : wpList P ops (fun e a' w' => Q e a' cs' w') rest (a.put o.dst v) w) : (Code.region id ops false).wpS P Q a cs w := by
  intro b k hb hro
  have h0 : ops[0]? = some o := by rw [← Array.getElem?_toList, hl]; rfl
  have hsz : ops.size = rest.length + 1 := by rw [← Array.length_toList, hl]; rfl
  have he : wpOps P ops (fun e a' w' => Q e a' cs' w') (List.range' 1 rest.length) = wpList P ops (fun e a' w' => Q e a' cs' w') rest :=
    wpOps_eq_wpList rest 1 (fun j => by rw [← Array.getElem?_toList, hl, Nat.add_comm]; rfl)
  rw [← he] at h
  obtain ⟨e, a', w', hq, harr⟩ := wp_ops _ _ _ h b k cs'
  have hrng : List.range ops.size = 0 :: List.range' 1 rest.length := by rw [hsz, List.range_eq_range', List.range'_succ]
  have hg := stepG_op (P := P) (b := b) (k := k) (cs := cs) (w := w) (rest := List.range' 1 rest.length) h0 hw
  have hfin : ∀ v, (b.at a (.inRegion ops (0 :: List.range' 1 rest.length) :: k)).finish v = b.at (a.put o.dst v) (.inRegion ops (List.range' 1 rest.length) :: k) := by
    intro v; rw [Frame.finish_at, h0]; rfl
  have hk : (b.at a (.inRegion ops (0 :: List.range' 1 rest.length) :: k)).kind = .deferred := hb
  have htr := tryRecover_deferred hk cs
  have hs1 : step P (lone (b.at a (.code (Code.region id ops false) :: k)) cs w) = .next (lone (b.at a (.inRegion ops (0 :: List.range' 1 rest.length) :: k)) cs w) := by
    rw [← hrng]; exact step_region
  refine ⟨e, a', cs', w', hq, .of_steps (.one hs1) (.of_steps (.one (step_lone_go ?_)) harr)⟩
  rw [hg, ← hfin]
  simp only [Frame.at] at htr ⊢
  rcases hc with hrec | ⟨hrec, rfl, rfl⟩
  · simp [stepG.apply, hr, htr, hrec]
  · simp [stepG.apply, hr, htr, hrec]
end Go.Proofs.YthbcjljkpnkakaaDoor

namespace Go.Proofs.YthbcjljkpnkakaaDoor
open Go.RowKit
set_option linter.unusedVariables false

section
variable {P : Program} {ops : Array Oper} {Q : Exit → Act → World → Prop} {S : World → Prop}
/-- A world that S holds of. -/
structure Held (S : World → Prop) where
  w : World
  h : S w
/-- The same, where nothing panics. -/
def calm (Q : Exit → Act → World → Prop) : Exit → Act → World → Prop
  | .panic _, _, _ => False
  | e, a, w => Q e a w
theorem calm_le (e : Exit) (a : Act) (w : World) (h : calm Q e a w) : Q e a w := by
  cases e <;> first | exact h | exact h.elim
theorem held_begin {id : Nat} {a : Act} {w : World} (hm : P.follows .mixedOrders = true)
    (h : wpAnyH P .any ops (calm Q) S ops.size (Array.replicate ops.size false) a w.drew) : (Code.region id ops true).wp P Q a w := wp_mono (wp_region_held hm h) calm_le
theorem held_seg (m : List Bool) {listed : Array Bool} {fuel : Nat} (fuel' : Nat) {a : Act} {w : World} {l : List Oper} (hs : Region.noSelect l.toArray = true) (hm : (decide (m.length ≤ l.length)) = true)
    (hok : segOk l.toArray (places 0 m) listed = true)
    (hf : fuel' + (places 0 m).length = fuel) (hS : S w)
    (h : wpMask P l.toArray (fun w' => ∃ x : Held S, w' = x.w) (fun b => wpAnyH P .any l.toArray (calm Q) S fuel' (marked listed (places 0 m)) b w) m l a) : wpAnyH P .any l.toArray (calm Q) S fuel listed a w := by
  subst hf
  refine take_list (fun w' h' => ⟨⟨w', h'⟩, rfl⟩) hs (fun _ _ _ _ _ h => h) (places 0 m) fuel' listed a w hok hS (wpSeg_of_mask m l 0 a (fun j => by simp) ?_ h)
  have := of_decide_eq_true hm
  simpa using this
theorem held_store (e : Nat) {listed : Array Bool} {fuel : Nat} {a : Act} {w w1 : World} {o : Oper} (hr : Region.ready .any ops listed = [e])
    (ho : ops[e]? = some o) (hw : Region.wanted o (yielded ops a.tmps) = true) (hrun : (execOp a.eval o).run P w = .ok .skip w1) (hS : S w1)
    (h : wpAnyH P .any ops Q S fuel (listed.setIfInBounds e true) (a.put o.dst undef) w1) :
    wpAnyH P .any ops Q S (fuel + 1) listed a w := by
  refine wpAnyH_all hr (by simp) (fun i hi => ?_)
  simp only [List.mem_singleton] at hi
  subst hi
  unfold wpOp
  simp only [ho, hw, if_true]
  refine .inl ?_
  unfold Oper.wp
  rw [hrun]
  simp only [Oper.upon]
  exact ⟨hS, h⟩
end
end Go.Proofs.YthbcjljkpnkakaaDoor
