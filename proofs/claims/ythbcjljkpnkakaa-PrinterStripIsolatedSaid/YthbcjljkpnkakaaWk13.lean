/-
  Contract: the program's walk through nodes, for every loop body that keeps what the walk reads; the way visits hands back.
  Walks that only read: the visits come one behind the other, as the nodes lie in memory.
-/
import Derived.Test.YthbcjljkpnkakaaVs13
import Derived.Test.YthbcjljkpnkakaaRo13
import Derived.Test.YthbcjljkpnkakaaName
import Derived.Test.YthbcjljkpnkakaaNm
namespace Go.Proofs.Ythbcjljkpnkakaa
open Go.RowKit Go.BigFrame Go.Shelf NT
set_option linter.unusedVariables false
set_option linter.unusedSimpArgs false
attribute [local go_sem] Oper.semAt_some

/-! ### What is asked of the states that the rounds go through -/
section
variable {σ : Type} (Pre : σ → Vis → Prop) (Nx : σ → Vis → σ → Prop) (Rd : σ → Nat → Nat → Value → Prop)
mutual
def runN : NT → Nat → Nat → σ → (σ → Prop) → Prop
  | .mk k a s p h e A c b B d l, g, o, s0, Q =>
    Pre s0 ⟨g, o, .mk k a s p h e A c b B d l, 0⟩ ∧ ∀ s1, Nx s0 ⟨g, o, .mk k a s p h e A c b B d l, 0⟩ s1 → ∃ A' c', b.length ≤ c' ∧ c' ≤ maxLen ∧ Rd s1 g (o + 6) (.slice A' b.length c') ∧ runNs b A' 0 s1 fun s2 =>
    Pre s2 ⟨g, o, .mk k a s p h e A c b B d l, 1⟩ ∧ ∀ s3, Nx s2 ⟨g, o, .mk k a s p h e A c b B d l, 1⟩ s3 → ∃ B' d', l.length ≤ d' ∧ d' ≤ maxLen ∧ Rd s3 g (o + 7) (.slice B' l.length d') ∧ runNs l B' 0 s3 fun s4 =>
    Pre s4 ⟨g, o, .mk k a s p h e A c b B d l, 2⟩ ∧ ∀ s5, Nx s4 ⟨g, o, .mk k a s p h e A c b B d l, 2⟩ s5 → Q s5
def runNs : List NT → Option Addr → Nat → σ → (σ → Prop) → Prop
  | [], _, _, s, Q => Q s
  | x :: r, A, i, s, Q => ∃ g o, A = some ⟨g, o, none⟩ ∧ runN x g (o + i * 8) s fun s' => runNs r A (i + 1) s' Q
end
theorem runN_eq (t : NT) (g o : Nat) (s0 : σ) (Q : σ → Prop) : runN Pre Nx Rd t g o s0 Q ↔
    (Pre s0 ⟨g, o, t, 0⟩ ∧ ∀ s1, Nx s0 ⟨g, o, t, 0⟩ s1 → ∃ A' c', t.b.length ≤ c' ∧ c' ≤ maxLen ∧ Rd s1 g (o + 6) (.slice A' t.b.length c') ∧ runNs Pre Nx Rd t.b A' 0 s1 fun s2 =>
      Pre s2 ⟨g, o, t, 1⟩ ∧ ∀ s3, Nx s2 ⟨g, o, t, 1⟩ s3 → ∃ B' d', t.l.length ≤ d' ∧ d' ≤ maxLen ∧ Rd s3 g (o + 7) (.slice B' t.l.length d') ∧ runNs Pre Nx Rd t.l B' 0 s3 fun s4 =>
      Pre s4 ⟨g, o, t, 2⟩ ∧ ∀ s5, Nx s4 ⟨g, o, t, 2⟩ s5 → Q s5) := by
  cases t
  rw [runN]
  exact Iff.rfl
theorem runNs_nil (A : Option Addr) (i : Nat) (s : σ) (Q : σ → Prop) : runNs Pre Nx Rd [] A i s Q ↔ Q s := by rw [runNs]
theorem runNs_cons (x : NT) (r : List NT) (A : Option Addr) (i : Nat) (s : σ) (Q : σ → Prop) : runNs Pre Nx Rd (x :: r) A i s Q ↔ ∃ g o, A = some ⟨g, o, none⟩ ∧ runN Pre Nx Rd x g (o + i * 8) s fun s' => runNs Pre Nx Rd r A (i + 1) s' Q := by rw [runNs]
end

section
variable {σ : Type} {Pre : σ → Vis → Prop} {Nx : σ → Vis → σ → Prop} {Rd : σ → Nat → Nat → Value → Prop} {J : σ → World → Prop} {Jx : World → Prop} {l : Nat}
abbrev vEnc (v : Vis) : Array Value := #[v.val]
/-- How a walk ends. -/
def WEnd (J : σ → World → Prop) (Jx : World → Prop) (Q : σ → Prop) (e : Ending) (W : World) : Prop := (e = .returned (.bool true) ∧ ∃ s, Q s ∧ J s W) ∨ (e = .returned (.bool false) ∧ Jx W)
/-- walk at the row A, with yield of loop l. -/
abbrev WCall (l : Nat) (A : Option Addr) (n c : Nat) (W : World) (R : Ending → World → Prop) : Prop := Calls Try.prog 29 #[.slice A n c, .func (.yield l) #[] #[]] W R
def WalkC (Pre : σ → Vis → Prop) (Nx : σ → Vis → σ → Prop) (Rd : σ → Nat → Nat → Value → Prop) (J : σ → World → Prop) (Jx : World → Prop) (l : Nat) (xs : List NT) : Prop :=
  ∀ (A : Option Addr) (c : Nat) (s : σ) (Q : σ → Prop) (W : World), xs.length ≤ c → c ≤ maxLen → runNs Pre Nx Rd xs A 0 s Q → J s W → WCall l A xs.length c W (WEnd J Jx Q)
/-- One node's visits, one behind the other, as the calls that they are. -/
def Steps (l g o nb nl : Nat) (Jx : World → Prop) (R : Ending → World → Prop) (W : World) : Prop :=
  YieldAt Fence.wide 0 Try.prog l #[.agg #[.pointer (some ⟨g, o, none⟩), .int .i64 0]] W fun e W1 => (e = .returned (.bool true) ∧ ∃ A c, W1.cell? ⟨g, o + 6, none⟩ = some (.slice A nb c) ∧
    WCall l A nb c W1 fun e W2 => (e = .returned (.bool true) ∧
      YieldAt Fence.wide 0 Try.prog l #[.agg #[.pointer (some ⟨g, o, none⟩), .int .i64 1]] W2 fun e W3 => (e = .returned (.bool true) ∧ ∃ B d, W3.cell? ⟨g, o + 7, none⟩ = some (.slice B nl d) ∧
        WCall l B nl d W3 fun e W4 => (e = .returned (.bool true) ∧
          YieldAt Fence.wide 0 Try.prog l #[.agg #[.pointer (some ⟨g, o, none⟩), .int .i64 2]] W4 R) ∨ (e = .returned (.bool false) ∧ Jx W4)) ∨ (e = .returned (.bool false) ∧ Jx W3)) ∨ (e = .returned (.bool false) ∧ Jx W2)) ∨ (e = .returned (.bool false) ∧ Jx W1)
theorem steps_of (hrd : ∀ s W, J s W → ∀ g o v, Rd s g o v → W.cell? ⟨g, o, none⟩ = some v) (hY : Rounds Fence.wide 0 Try.prog l vEnc Pre Nx J Jx) {x : NT} (hb : WalkC Pre Nx Rd J Jx l x.b) (hl : WalkC Pre Nx Rd J Jx l x.l)
    {g o : Nat} {s : σ} {Q : σ → Prop} {W : World} (hr : runN Pre Nx Rd x g o s Q) (hJ : J s W) : Steps l g o x.b.length x.l.length Jx (WEnd J Jx Q) W := by
  obtain ⟨p0, hr⟩ := (runN_eq Pre Nx Rd x g o s Q).1 hr
  refine yieldAt_mono (hY s ⟨g, o, x, 0⟩ W hJ p0) ?_
  rintro e W1 (⟨rfl, s1, n1, hJ1⟩ | ⟨rfl, hx⟩)
  case inr => exact .inr ⟨rfl, hx⟩
  obtain ⟨A, c, h1, h2, h3, hr⟩ := hr s1 n1
  refine .inl ⟨rfl, A, c, hrd s1 W1 hJ1 _ _ _ h3, (hb A c s1 _ W1 h1 h2 hr hJ1).mono ?_⟩
  rintro e W2 (⟨rfl, s2, ⟨p1, hr⟩, hJ2⟩ | ⟨rfl, hx⟩)
  case inr => exact .inr ⟨rfl, hx⟩
  refine .inl ⟨rfl, yieldAt_mono (hY s2 ⟨g, o, x, 1⟩ W2 hJ2 p1) ?_⟩
  rintro e W3 (⟨rfl, s3, n3, hJ3⟩ | ⟨rfl, hx⟩)
  case inr => exact .inr ⟨rfl, hx⟩
  obtain ⟨B, d, h4, h5, h6, hr⟩ := hr s3 n3
  refine .inl ⟨rfl, B, d, hrd s3 W3 hJ3 _ _ _ h6, (hl B d s3 _ W3 h4 h5 hr hJ3).mono ?_⟩
  rintro e W4 (⟨rfl, s4, ⟨p2, hr⟩, hJ4⟩ | ⟨rfl, hx⟩)
  case inr => exact .inr ⟨rfl, hx⟩
  refine .inl ⟨rfl, yieldAt_mono (hY s4 ⟨g, o, x, 2⟩ W4 hJ4 p2) ?_⟩
  rintro e W5 (⟨rfl, s5, n5, hJ5⟩ | ⟨rfl, hx⟩)
  case inr => exact .inr ⟨rfl, hx⟩
  exact .inl ⟨rfl, s5, hr s5 n5, hJ5⟩

set_option maxRecDepth 100000 in
set_option maxHeartbeats 3200000 in
theorem walk_row (xs : List NT) (hs : ∀ (x : NT), x ∈ xs → ∀ (g o : Nat) (s : σ) (Q : σ → Prop) (W : World), runN Pre Nx Rd x g o s Q → J s W → Steps l g o x.b.length x.l.length Jx (WEnd J Jx Q) W) : WalkC Pre Nx Rd J Jx l xs := by
  intro A c s Q W hc hcm hr hJ
  obtain ⟨n, hn⟩ : ∃ n, n = xs.length := ⟨_, rfl⟩
  unfold maxLen at hcm
  rw [← hn] at hc ⊢
  have HN := Lib.hid hn
  have HS := Lib.hid hs
  have HR := Lib.hid hr
  have HJ := Lib.hid hJ
  clear hn hs hr hJ
  refine (callsIn_wide (n := 0)).1 ?_
  refine callsIn_of_wp Try.func29 rfl trivial ?_ rfl
  simp only [Try.ntmps29, List.size_toArray, List.length_cons, List.length_nil, Nat.reduceAdd, Nat.reduceSub, Array.replicate_succ, Array.replicate_zero, List.push_toArray, List.append_toArray, List.nil_append, List.cons_append]
  gi_wp2
  gi_loopw [9] (fun s9 wr => ∃ (i : Nat) (s' : σ), i ≤ n ∧ s9 = .int .i64 i ∧ Hid (runNs Pre Nx Rd (xs.drop i) A i s' Q) ∧ Hid (J s' wr)) (fun s9 _ => n - (intOf s9).toNat)
  case atStart => exact ⟨0, s, Nat.zero_le _, rfl, Lib.hid (by rw [List.drop_zero]; exact HR.out), HJ⟩
  case round =>
    obtain ⟨i, s', hi, rfl, HR', HJ'⟩ := hrel
    by_cases hlt : i < n
    · obtain ⟨x, hx⟩ : ∃ x, xs[i]? = some x := ⟨_, List.getElem?_eq_getElem (by have := HN.out; omega)⟩
      have hd : xs.drop i = x :: xs.drop (i + 1) := by
        rw [List.drop_eq_getElem_cons (by have := HN.out; omega)]
        rw [List.getElem?_eq_getElem (by have := HN.out; omega)] at hx
        injection hx with hx
        rw [hx]
      have hr := HR'.out
      rw [hd, runNs_cons] at hr
      obtain ⟨g, o, rfl, hr⟩ := hr
      obtain ⟨fn, tmps, assign, body, hy, hS⟩ := HS.out x (List.mem_of_getElem? hx) g (o + i * 8) s' _ wr hr HJ'.out
      obtain ⟨nb, hnb⟩ : ∃ nb, nb = x.b.length := ⟨_, rfl⟩
      obtain ⟨nl, hnl⟩ : ∃ nl, nl = x.l.length := ⟨_, rfl⟩
      rw [← hnb, ← hnl] at hS
      have HY0 := Lib.hid hS
      clear hx hd hr hS hnb hnl HR' HJ'
      gi_wp2_with (first | ((try refine ⟨rfl, ?_⟩); refine RoundIn.mono (roundIn_wide HY0.out) ?_; clear HY0 hy; rintro e W1 (⟨rfl, A1, c1, hc1, hC1⟩ | ⟨rfl, hx1⟩)) | ((try refine ⟨trivial, ?_⟩); (try refine ⟨rfl, ?_⟩); gi_at_call 29; refine (callsIn_wide.2 hC1).mono ?_; clear hC1 hc1; rintro e W2 (⟨rfl, fn1, tmps1, assign1, body1, hy1, hR1⟩ | ⟨rfl, hx2⟩)) | ((try refine ⟨rfl, ?_⟩); refine RoundIn.mono (roundIn_wide hR1) ?_; clear hR1 hy1; rintro e W3 (⟨rfl, B1, d1, hd1, hC3⟩ | ⟨rfl, hx3⟩)) | ((try refine ⟨trivial, ?_⟩); (try refine ⟨rfl, ?_⟩); gi_at_call 29; refine (callsIn_wide.2 hC3).mono ?_; clear hC3 hd1; rintro e W4 (⟨rfl, fn2, tmps2, assign2, body2, hy2, hR2⟩ | ⟨rfl, hx4⟩)) | ((try refine ⟨rfl, ?_⟩); refine RoundIn.mono (roundIn_wide hR2) ?_; clear hR2 hy2; rintro e W5 (⟨rfl, s5, hq5, hJ5⟩ | ⟨rfl, hx5⟩)))
      · go_roundw
        case rel => exact ⟨i + 1, s5, by omega, by go_num, Lib.hid hq5, Lib.hid hJ5⟩
        case measure => simp [intOf]; omega
      all_goals
        repeat (first | (refine ⟨fun _ h => (by cases h), ?_⟩; gi_wp2_with fail) | (refine ⟨trivial, ?_⟩; gi_wp2_with fail))
        go_ret
        exact .inr ⟨rfl, by assumption⟩
    · obtain rfl : i = n := by omega
      have hq := HR'.out
      rw [List.drop_of_length_le (by have := HN.out; omega), runNs_nil] at hq
      have HQ := Lib.hid hq
      clear hq
      gi_wp2
      go_ret
      exact .inl ⟨rfl, s', HQ.out, HJ'.out⟩
/-- Whatever the nodes. -/
theorem walk_all (hrd : ∀ s W, J s W → ∀ g o v, Rd s g o v → W.cell? ⟨g, o, none⟩ = some v) (hY : Rounds Fence.wide 0 Try.prog l vEnc Pre Nx J Jx) (t : NT) : WalkC Pre Nx Rd J Jx l t.b ∧ WalkC Pre Nx Rd J Jx l t.l := by
  refine NT.ind (M := fun t => WalkC Pre Nx Rd J Jx l t.b ∧ WalkC Pre Nx Rd J Jx l t.l) (fun t h1 h2 => ⟨walk_row t.b ?_, walk_row t.l ?_⟩) t
  · exact fun x hx g o s Q W hr hJ => steps_of hrd hY (h1 x hx).1 (h1 x hx).2 hr hJ
  · exact fun x hx g o s Q W hr hJ => steps_of hrd hY (h2 x hx).1 (h2 x hx).2 hr hJ
theorem walk_c (hrd : ∀ s W, J s W → ∀ g o v, Rd s g o v → W.cell? ⟨g, o, none⟩ = some v) (hY : Rounds Fence.wide 0 Try.prog l vEnc Pre Nx J Jx) (xs : List NT) : WalkC Pre Nx Rd J Jx l xs :=
  walk_row xs fun x hx g o s Q W hr hJ => steps_of hrd hY (walk_all hrd hY x).1 (walk_all hrd hY x).2 hr hJ
end

/-! ### visits -/
theorem visits_c (A : Option Addr) (n c : Nat) (w : World) : Calls Try.prog 16 #[.slice A n c] w fun e w' =>
    e = .returned (.func (.func 28) #[] #[.pointer (some ⟨w.heap.size, 0, none⟩)]) ∧ w' = w.alloc (.cells #[.slice A n c] 22) := by
  go_enter Try.func16, Try.ntmps16
  go_wp2
  go_ret
  exact ⟨rfl, rfl⟩
set_option maxHeartbeats 1000000 in
/-- What visits hands back keeps its word: the states go as runNs says. -/
theorem visits_iterates {σ : Type} {Pre : σ → Vis → Prop} {Nx : σ → Vis → σ → Prop} {Rd : σ → Nat → Nat → Value → Prop} {I : σ → World → Prop} {s0 : σ} {Fin : σ → Prop} {xs : List NT} {A : Option Addr} {c bx m : Nat}
    (hc : xs.length ≤ c) (hcm : c ≤ maxLen) (hrd : ∀ s W, I s W → ∀ g o v, Rd s g o v → W.cell? ⟨g, o, none⟩ = some v) (hbx : ∀ W, I s0 W → W.cell? ⟨bx, 0, none⟩ = some (.slice A xs.length c)) (hrun : runNs Pre Nx Rd xs A 0 s0 Fin) :
    Iterates Fence.wide m Try.prog 28 #[.pointer (some ⟨bx, 0, none⟩)] vEnc Pre Nx I s0 Fin := by
  intro l J Jx hJI hJg hXg hY W hJ
  have HW := Lib.hid (walk_c (J := J) (Jx := Jx) (l := l) (fun s W h => hrd s W (hJI s W h)) (fun s x W h hp => yieldAt_wide (hY s x W h hp)) xs A c s0 Fin W hc hcm hrun hJ)
  have hb := hbx W (hJI s0 W hJ)
  obtain ⟨n, hn⟩ : ∃ n, n = xs.length := ⟨_, rfl⟩
  rw [← hn] at hb HW
  clear hY hrun hrd hbx hn hc hcm hJI hJg hXg hJ
  refine callsIn_of_wp Try.func28 rfl trivial ?_ rfl
  simp only [Try.ntmps28, List.size_toArray, List.length_cons, List.length_nil, Nat.reduceAdd, Nat.reduceSub, Array.replicate_succ, Array.replicate_zero, List.push_toArray, List.append_toArray, List.nil_append, List.cons_append]
  gi_wp2_with fail
  refine ⟨trivial, fun h => (by cases h), (callsIn_wide.2 HW.out).mono ?_⟩
  rintro e W1 (⟨rfl, hs1⟩ | ⟨rfl, hx1⟩)
  · gi_wp2_with fail
    go_end0
    exact ⟨⟨_, rfl⟩, .inl hs1⟩
  · gi_wp2_with fail
    go_end0
    exact ⟨⟨_, rfl⟩, .inr hx1⟩
end Go.Proofs.Ythbcjljkpnkakaa

namespace Go.Proofs.Ythbcjljkpnkakaa
open Go.RowKit Go.BigFrame Go.Shelf NT
set_option linter.unusedVariables false
set_option linter.unusedSimpArgs false

/-! ### What is true of each visit -/
theorem vNs_mem_of {P : Vis → Prop} : ∀ (r : List NT) (A : Option Addr) (i : Nat), (∀ j x, r[j]? = some x → ∀ v, v ∈ vN x (blkA A) (offA A + (i + j) * 8) → P v) → ∀ v, v ∈ vNs r A i → P v
  | [], A, i, _, v, hv => by rw [vNs_nil] at hv; cases hv
  | x :: r, A, i, h, v, hv => by
    rw [vNs_cons, List.mem_append] at hv
    rcases hv with hv | hv
    · exact h 0 x rfl v (by simpa using hv)
    · exact vNs_mem_of r A (i + 1) (fun j y hy v hv => h (j + 1) y (by simpa using hy) v (by rw [show i + (j + 1) = i + 1 + j by omega]; exact hv)) v hv
/-- The node of a visit lies where the visit says. -/
structure VOk (w : World) (v : Vis) : Prop where
  cells : v.t.Cells w v.g v.o
  lt : v.g < w.heap.size
  in_ : v.t.In w (Lt w)
  q : v.q ≤ 2
theorem vN_ok (t : NT) : ∀ (w : World), t.In w (Lt w) → ∀ g o, t.Cells w g o → g < w.heap.size → ∀ v, v ∈ vN t g o → VOk w v := by
  refine NT.ind (M := fun t => ∀ (w : World), t.In w (Lt w) → ∀ g o, t.Cells w g o → g < w.heap.size → ∀ v, v ∈ vN t g o → VOk w v) (fun t h1 h2 w hI g o hc hg v hv => ?_) t
  have row : ∀ (r : List NT) (A : Option Addr) (c : Nat), Row w (Lt w) A c r → (∀ x, x ∈ r → ∀ (w : World), x.In w (Lt w) → ∀ g o, x.Cells w g o → g < w.heap.size → ∀ v, v ∈ vN x g o → VOk w v) → ∀ v, v ∈ vNs r A 0 → VOk w v := fun r A c hR ih =>
    vNs_mem_of r A 0 fun j x hx v hv => by
      obtain ⟨g, o, rfl, hg, hc, hi⟩ := hR.at_ hx
      rw [Nat.zero_add] at hv
      exact ih x (List.mem_of_getElem? hx) w hi g (o + j * 8) hc hg v hv
  rw [vN_eq] at hv
  simp only [List.mem_cons, List.mem_append, List.not_mem_nil, or_false] at hv
  rcases hv with rfl | hv | rfl | hv | rfl
  · exact ⟨hc, hg, hI, by simp⟩
  · exact row t.b t.A t.c hI.body h1 v hv
  · exact ⟨hc, hg, hI, by simp⟩
  · exact row t.l t.B t.d hI.els h2 v hv
  · exact ⟨hc, hg, hI, by simp⟩
theorem vNs_ok {w : World} {A : Option Addr} {c : Nat} {l : List NT} (h : Row w (Lt w) A c l) : ∀ v, v ∈ vNs l A 0 → VOk w v :=
  vNs_mem_of l A 0 fun j x hx v hv => by
    obtain ⟨g, o, rfl, hg, hc, hi⟩ := h.at_ hx
    rw [Nat.zero_add] at hv
    exact vN_ok x w hi g (o + j * 8) hc hg v hv
theorem VOk.bel {w w' : World} {v : Vis} (h : VOk w v) (hb : Bel w w') : VOk w' v := ⟨h.cells.same fun p => hb.cell h.lt, Nat.lt_of_lt_of_le h.lt hb.size, h.in_.bel hb, h.q⟩
theorem vN_ng (t : NT) : Ng t → ∀ g o v, v ∈ vN t g o → Ng v.t := by
  refine NT.ind (M := fun t => Ng t → ∀ g o v, v ∈ vN t g o → Ng v.t) (fun t h1 h2 h g o v hv => ?_) t
  rw [vN_eq] at hv
  simp only [List.mem_cons, List.mem_append, List.not_mem_nil, or_false] at hv
  rcases hv with rfl | hv | rfl | hv | rfl
  · exact h
  · exact vNs_mem_of (P := fun v => Ng v.t) t.b t.A 0 (fun j x hx v hv => h1 x (List.mem_of_getElem? hx) (h.body x (List.mem_of_getElem? hx)) _ _ v hv) v hv
  · exact h
  · exact vNs_mem_of (P := fun v => Ng v.t) t.l t.B 0 (fun j x hx v hv => h2 x (List.mem_of_getElem? hx) (h.els x (List.mem_of_getElem? hx)) _ _ v hv) v hv
  · exact h
theorem vNs_ng {l : List NT} (h : ∀ x, x ∈ l → Ng x) (A : Option Addr) : ∀ v, v ∈ vNs l A 0 → Ng v.t :=
  vNs_mem_of (P := fun v => Ng v.t) l A 0 fun j x hx v hv => vN_ng x (h x (List.mem_of_getElem? hx)) _ _ v hv

/-! ### The states: what has come -/
def roPre (all pre : List Vis) (x : Vis) : Prop := ∃ rest, all = pre ++ x :: rest
def roNx (pre : List Vis) (x : Vis) (s : List Vis) : Prop := s = pre ++ [x]
def roRd (w : World) (_ : List Vis) (g o : Nat) (v : Value) : Prop := g < w.heap.size ∧ w.cell? ⟨g, o, none⟩ = some v
abbrev roN (all : List Vis) (w : World) : NT → Nat → Nat → List Vis → (List Vis → Prop) → Prop := runN (roPre all) roNx (roRd w)
abbrev roNs (all : List Vis) (w : World) : List NT → Option Addr → Nat → List Vis → (List Vis → Prop) → Prop := runNs (roPre all) roNx (roRd w)
theorem ro_row {all : List Vis} {w : World} (A : Option Addr) : ∀ (r : List NT) (i : Nat) (pre rest : List Vis) (Q : List Vis → Prop),
    (∀ j x, r[j]? = some x → ∃ g o, A = some ⟨g, o, none⟩ ∧ ∀ pre rest Q, all = pre ++ (vN x g (o + (i + j) * 8) ++ rest) → Q (pre ++ vN x g (o + (i + j) * 8)) → roN all w x g (o + (i + j) * 8) pre Q) →
    all = pre ++ (vNs r A i ++ rest) → Q (pre ++ vNs r A i) → roNs all w r A i pre Q
  | [], i, pre, rest, Q, h, ha, hq => by rw [vNs_nil, List.append_nil] at hq; exact (runNs_nil ..).2 hq
  | x :: r, i, pre, rest, Q, h, ha, hq => by
    obtain ⟨g, o, rfl, hx⟩ := h 0 x rfl
    rw [Nat.add_zero] at hx
    rw [vNs_cons] at ha hq
    refine (runNs_cons ..).2 ⟨g, o, rfl, ?_⟩
    refine hx pre (vNs r (some ⟨g, o, none⟩) (i + 1) ++ rest) _ (by rw [← List.append_assoc (vN _ _ _)]; exact ha) ?_
    refine ro_row (some ⟨g, o, none⟩) r (i + 1) _ rest Q (fun j y hy => ?_) (by rw [List.append_assoc, ← List.append_assoc (vN _ _ _)]; exact ha) (by rw [List.append_assoc]; exact hq)
    obtain ⟨g', o', e, h'⟩ := h (j + 1) y (by simpa using hy)
    rw [show i + (j + 1) = i + 1 + j by omega] at h'
    exact ⟨g', o', e, h'⟩
theorem ro_one (t : NT) : ∀ (all : List Vis) (w : World), t.In w (Lt w) → ∀ g o, t.Cells w g o → g < w.heap.size → ∀ pre rest Q, all = pre ++ (vN t g o ++ rest) → Q (pre ++ vN t g o) → roN all w t g o pre Q := by
  refine NT.ind (M := fun t => ∀ (all : List Vis) (w : World), t.In w (Lt w) → ∀ g o, t.Cells w g o → g < w.heap.size → ∀ pre rest Q, all = pre ++ (vN t g o ++ rest) → Q (pre ++ vN t g o) → roN all w t g o pre Q)
    (fun t h1 h2 all w hI g o hc hg pre rest Q ha hq => ?_) t
  have hB := hI.body
  have hE := hI.els
  obtain ⟨_, _, _, _, _, _, c6, c7⟩ := hc.all
  rw [vN_eq] at ha hq
  simp only [List.cons_append, List.append_assoc, List.nil_append] at ha hq
  refine (runN_eq ..).2 ⟨⟨_, ha⟩, ?_⟩
  rintro s1 rfl
  refine ⟨t.A, t.c, hB.1.1.1, hB.1.1.2.1, ⟨hg, c6⟩, ?_⟩
  refine ro_row t.A t.b 0 _ (⟨g, o, t, 1⟩ :: (vNs t.l t.B 0 ++ (⟨g, o, t, 2⟩ :: rest))) _ (fun j x hx => ?_) (by simpa using ha) ?_
  · obtain ⟨g', o', e, hg', hc', hi'⟩ := hB.at_ hx
    rw [Nat.zero_add]
    exact ⟨g', o', e, fun pre rest Q => h1 x (List.mem_of_getElem? hx) all w hi' g' _ hc' hg' pre rest Q⟩
  refine ⟨⟨vNs t.l t.B 0 ++ (⟨g, o, t, 2⟩ :: rest), by simpa using ha⟩, ?_⟩
  rintro s3 rfl
  refine ⟨t.B, t.d, hE.1.1.1, hE.1.1.2.1, ⟨hg, c7⟩, ?_⟩
  refine ro_row t.B t.l 0 _ (⟨g, o, t, 2⟩ :: rest) _ (fun j x hx => ?_) (by simpa using ha) ?_
  · obtain ⟨g', o', e, hg', hc', hi'⟩ := hE.at_ hx
    rw [Nat.zero_add]
    exact ⟨g', o', e, fun pre rest Q => h2 x (List.mem_of_getElem? hx) all w hi' g' _ hc' hg' pre rest Q⟩
  refine ⟨⟨rest, by simpa using ha⟩, ?_⟩
  rintro s5 rfl
  simpa using hq
theorem ro_all {w : World} {A : Option Addr} {c : Nat} {l : List NT} (h : Row w (Lt w) A c l) : roNs (vNs l A 0) w l A 0 [] (fun s => s = vNs l A 0) := by
  refine ro_row A l 0 [] [] _ (fun j x hx => ?_) (by simp) (by simp)
  obtain ⟨g, o, e, hg, hc, hi⟩ := h.at_ hx
  rw [Nat.zero_add]
  exact ⟨g, o, e, fun pre rest Q => ro_one x _ w hi g _ hc hg pre rest Q⟩
/-- visits at a row that is only read. -/
theorem ro_iterates {w : World} {A : Option Addr} {c : Nat} {l : List NT} (h : Row w (Lt w) A c l) {I : List Vis → World → Prop} {bx m : Nat} (hI : ∀ s W, I s W → Bel w W) (hbx : ∀ W, I [] W → W.cell? ⟨bx, 0, none⟩ = some (.slice A l.length c)) :
    Iterates Fence.wide m Try.prog 28 #[.pointer (some ⟨bx, 0, none⟩)] vEnc (roPre (vNs l A 0)) roNx I [] (fun s => s = vNs l A 0) :=
  visits_iterates (Rd := roRd w) h.1.1.1 h.1.1.2.1 (fun s W hs g o v hr => ((hI s W hs).cell hr.1).trans hr.2) hbx (ro_all h)
theorem roPre_mem {all pre : List Vis} {x : Vis} (h : roPre all pre x) : x ∈ all := by obtain ⟨r, rfl⟩ := h; simp
end Go.Proofs.Ythbcjljkpnkakaa
