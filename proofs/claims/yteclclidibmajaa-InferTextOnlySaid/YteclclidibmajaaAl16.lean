/-
  The program of layer 16: the analysis as it lies in memory, what its functions answer; comparing states.
  The program of layer 16: fail, call.
  The program of layer 16: print.
  The program of layer 16: block.
  The program of layer 16: branches.
  The program of layer 16: node and list.
-/
import Derived.Test.YteclclidibmajaaPh15
import Derived.Test.YteclclidibmajaaRs16
import Derived.Test.YteclclidibmajaaRegion2
namespace Go.Proofs.Yteclclidibmajaa
open Go.RowKit Go.BigFrame NT
set_option linter.unusedVariables false
set_option linter.unusedSimpArgs false
set_option maxRecDepth 100000

theorem pst_neq (s t : HS) (w : World) : (binOp .neq 34 (.agg #[.int .i64 (s.c : Nat), .string (ofL s.n), .string (ofL s.a), .string (ofL s.p)]) (.agg #[.int .i64 (t.c : Nat), .string (ofL t.n), .string (ofL t.a), .string (ofL t.p)])).run Try.prog w = .ok (.bool (!eqH s t)) w := by
  have u3 := Try.underlying3
  have a3 := Try.isAgg3
  have z3 := Try.sizeOf3
  have u9 := Try.underlying9
  have a9 := Try.isAgg9
  have z9 := Try.sizeOf9
  have hS : Try.prog.underlying 34 = some (.struct (Try.prog.fieldsOf 34)) := by kernel_rfl
  have hp : Try.prog.stoodInHeld 34 = false := by kernel_rfl
  rw [run_neq_struct, show (10000 : Nat) = 9999 + 1 from rfl, run_equalIn_agg w 9999 34 _ _ hS hp]
  simp only [Program.fieldsOf, Try.underlying34]
  go_simp
  unfold eqH
  simp only [ofL_list]
  have hc : ((s.c : Int) = (t.c : Int)) ↔ s.c = t.c := by omega
  by_cases h1 : s.c = t.c <;> by_cases h2 : s.n = t.n <;> by_cases h3 : s.a = t.a <;> by_cases h4 : s.p = t.p <;> simp [h1, h2, h3, h4, hc]
theorem pst_eql (s t : HS) (w : World) : (binOp .eql 34 (.agg #[.int .i64 (s.c : Nat), .string (ofL s.n), .string (ofL s.a), .string (ofL s.p)]) (.agg #[.int .i64 (t.c : Nat), .string (ofL t.n), .string (ofL t.a), .string (ofL t.p)])).run Try.prog w = .ok (.bool (eqH s t)) w := st_eql s t w
/-! ### The analysis: a cell that holds the row of the escapers so far -/
structure An (B rr : Nat) (w : World) (A : Option Addr) (n c : Nat) (es : List Nat) : Prop where
  blk : Blk w rr 51 [.slice A n c]
  len : n = es.length
  row : RowAt w 3 A n c (vin es)
  lo : B ≤ rr
  low : ∀ k, k ∈ rowT A → B ≤ k
theorem An.bel {B rr : Nat} {w w' : World} {A : Option Addr} {n c : Nat} {es : List Nat} (h : An B rr w A n c es) (hb : Bel w w') : An B rr w' A n c es := ⟨h.blk.belh hb, h.len, h.row.only (bel_only hb) (by simp), h.lo, h.low⟩
theorem An.size {B rr : Nat} {w : World} {A : Option Addr} {n c : Nat} {es : List Nat} (h : An B rr w A n c es) : B ≤ w.heap.size := by have := h.blk.lt; have := h.lo; omega
theorem An.ne {B rr : Nat} {w : World} {A : Option Addr} {n c : Nat} {es : List Nat} {g : Nat} {T : TypeId} {cs : List Value} (h : An B rr w A n c es) (hB : Blk w g T cs) (hT : T ≠ 51) : g ≠ rr := by
  rintro rfl
  have h1 := h.blk
  unfold Blk at h1 hB
  rw [hB] at h1
  simp only [Option.some.injEq, Obj.cells.injEq] at h1
  exact hT h1.2.1
theorem An.keep {B rr : Nat} {w w' : World} {A : Option Addr} {n c : Nat} {es : List Nat} {g : Nat} {T : TypeId} {cs : List Value} (h : An B rr w A n c es) (hO : Only (rr :: rowT A) w w') (hB : Blk w g T cs) (h1 : T ≠ 51) (h2 : T ≠ 3) : Blk w' g T cs :=
  hB.only hO (by rw [List.mem_cons, not_or]; exact ⟨h.ne hB h1, h.row.ne_blk hB h2⟩)
theorem An.own {B rr : Nat} {w w' : World} {A : Option Addr} {n c : Nat} {es : List Nat} {g : Nat} {T : TypeId} {cs : List Value} (h : An B rr w A n c es) (hO : Only [g] w w') (hB : Blk w g T cs) (h1 : T ≠ 51) (h2 : T ≠ 3) : An B rr w' A n c es :=
  ⟨h.blk.only hO (by rw [List.mem_singleton]; exact fun e => h.ne hB h1 e.symm), h.len, h.row.only hO (fun k hk hm => by rw [List.mem_singleton] at hm; subst hm; exact h.row.ne_blk hB h2 hk), h.lo, h.low⟩
/-- What became of an analysis since a world: nothing else was turned that was there then. -/
structure Ev (B rr : Nat) (w : World) (A0 : Option Addr) (W : World) (A : Option Addr) (n c : Nat) (es : List Nat) : Prop where
  an : An B rr W A n c es
  only : Only (rr :: rowT A0) w W
  sub : ∀ k, k ∈ rowT A → k ∈ rowT A0 ∨ w.heap.size ≤ k
theorem Ev.refl {B rr : Nat} {w : World} {A : Option Addr} {n c : Nat} {es : List Nat} (h : An B rr w A n c es) : Ev B rr w A w A n c es := ⟨h, Only.refl _ _, fun k hk => .inl hk⟩
theorem Ev.bel {B rr : Nat} {w W W' : World} {A0 A : Option Addr} {n c : Nat} {es : List Nat} (h : Ev B rr w A0 W A n c es) (hb : Bel W W') : Ev B rr w A0 W' A n c es := ⟨h.an.bel hb, h.only.join (bel_only hb) (by simp), h.sub⟩
theorem Ev.own {B rr : Nat} {w W W' : World} {A0 A : Option Addr} {n c : Nat} {es : List Nat} {g : Nat} {T : TypeId} {cs : List Value} (h : Ev B rr w A0 W A n c es) (hO : Only [g] W W') (hg : w.heap.size ≤ g) (hB : Blk W g T cs) (h1 : T ≠ 51) (h2 : T ≠ 3) : Ev B rr w A0 W' A n c es :=
  ⟨h.an.own hO hB h1 h2, h.only.join hO (fun i hi => by rw [List.mem_singleton] at hi; subst hi; exact .inr hg), h.sub⟩
theorem Ev.call {B rr : Nat} {w W W' : World} {A0 A A' : Option Addr} {n' c' : Nat} {es' : List Nat} (hO : Only (rr :: rowT A0) w W) (hs : ∀ k, k ∈ rowT A → k ∈ rowT A0 ∨ w.heap.size ≤ k) (h2 : Ev B rr W A W' A' n' c' es') : Ev B rr w A0 W' A' n' c' es' :=
  ⟨h2.an, hO.join h2.only (fun i hi => by
    rcases List.mem_cons.1 hi with rfl | hi
    · exact .inl (by simp)
    · exact (hs i hi).imp (fun h => List.mem_cons_of_mem _ h) id), fun k hk => by
    rcases h2.sub k hk with h | h
    · exact hs k h
    · exact .inr (Nat.le_trans hO.size h)⟩
theorem Ev.then {B rr : Nat} {w W W' : World} {A0 A A' : Option Addr} {n c n' c' : Nat} {es es' : List Nat} (h : Ev B rr w A0 W A n c es) (h2 : Ev B rr W A W' A' n' c' es') : Ev B rr w A0 W' A' n' c' es' := Ev.call h.only h.sub h2
/-- What lies below the base stays. -/
theorem Ev.below {B rr : Nat} {w W : World} {A0 A : Option Addr} {n0 c0 n c : Nat} {es0 es : List Nat} (h : Ev B rr w A0 W A n c es) (h0 : An B rr w A0 n0 c0 es0) : Below B w W := h.only.to_below h0.size (fun k hk => by
  rcases List.mem_cons.1 hk with rfl | hk
  · exact h0.lo
  · exact h0.low k hk)
/-! ### Nodes below a base -/
theorem NT.In.low {B : Nat} {w w' : World} {t : NT} (h : t.In w (· < B)) (hb : Below B w w') : t.In w' (· < B) := h.same (fun _ hg => hg) fun g p hg => Below.cell (p := ⟨g, p, none⟩) hb hg
theorem NT.Row.low {B : Nat} {w w' : World} {A : Option Addr} {c : Nat} {l : List NT} (h : Row w (· < B) A c l) (hb : Below B w w') : Row w' (· < B) A c l := h.same (fun _ hg => hg) fun g p hg => Below.cell (p := ⟨g, p, none⟩) hb hg
/-! ### What the program's functions answer -/
/-- The state, the offset, the error, and the escapers behind them. -/
def PQ (r : IR) (done : List Nat) (t : HS) (a k : Int) (es : List Nat) : Prop := match r with
  | .ok s e => t = s ∧ a = 0 ∧ k = 0 ∧ es = done ++ e
  | .no a' k' => t = s0 0 ∧ a = a' ∧ k = (k' : Nat) ∧ k' ≠ 0
def PP (r : IR) (done : List Nat) (B rr : Nat) (w : World) (A : Option Addr) (e : Ending) (w' : World) : Prop :=
  ∃ t a k A' n' c' es, e = .returned (.tuple #[.agg #[.int .i64 (t.c : Nat), .string (ofL t.n), .string (ofL t.a), .string (ofL t.p)], .int .i64 a, .int .i64 k]) ∧ Hid (Ev B rr w A w' A' n' c' es) ∧ Hid (PQ r done t a k es)
/-- The same of a function that has no analysis. -/
def PB (v : Value) (a k : Int) (w : World) (e : Ending) (w' : World) : Prop := e = .returned (.tuple #[v, .int .i64 a, .int .i64 k]) ∧ Bel w w'
theorem results_row_tmp2_16 {P : Program} {fn : Func} {p u v : Tmp} {ty : TypeId} (h : fn.results = #[.cell p ty, .tmp u, .tmp v]) (tmps : Array Value) (w : World) (g : Nat) (t : TypeId) (cs : Array Value) (fr : Nat × Nat) (d : TypeDesc)
    (hp : tmps.getD p undef = .pointer (some ⟨g, 0, none⟩)) (hg : w.heap[g]? = some (.cells cs t fr)) (hu : P.underlying ty = some d) (hd : (match d with | .struct _ | .array _ _ => true | _ => false) = true) (hi : (P.info? ty).map (·.size) = some cs.size) :
    (results fn tmps).run P w = .ok (.tuple #[.agg cs, tmps.getD u undef, tmps.getD v undef]) w := by
  have hp' : tmps[p]?.getD undef = .pointer (some ⟨g, 0, none⟩) := by simpa using hp
  simp [results, h, hp', asAddr, run_loadVar_row w g t ty cs fr d hg hu hd hi]
theorem only4p (W : World) (g : Nat) (a0 a1 a2 a3 : Value) : Only [g] W ((((W.setCell ⟨g, 0, none⟩ a0).setCell ⟨g, 1, none⟩ a1).setCell ⟨g, 2, none⟩ a2).setCell ⟨g, 3, none⟩ a3) :=
  (((((Only.refl [g] W).setCell (.inl (by simp)) _).setCell (.inl (by simp)) _).setCell (.inl (by simp)) _).setCell (.inl (by simp)) _)
theorem pp_set {f : Func} {p u v g : Nat} {tmps : Array Value} {w W : World} {r : IR} {done : List Nat} {B rr : Nat} {A : Option Addr} {a0 a1 a2 a3 v0 v1 v2 v3 : Value} {t : HS} {a k : Int} {A' : Option Addr} {n' c' : Nat} {es : List Nat}
    (hf : f.results = #[.cell p 34, .tmp u, .tmp v]) (hp : tmps.getD p undef = .pointer (some ⟨g, 0, none⟩)) (hu : tmps.getD u undef = .int .i64 a) (hv : tmps.getD v undef = .int .i64 k)
    (hB : Blk W g 34 [a0, a1, a2, a3]) (hg : w.heap.size ≤ g) (hE : Ev B rr w A W A' n' c' es) (he : Value.agg #[v0, v1, v2, v3] = .agg #[.int .i64 (t.c : Nat), .string (ofL t.n), .string (ofL t.a), .string (ofL t.p)]) (hq : PQ r done t a k es) :
    bodyPost Try.prog f (PP r done B rr w A) .ret { tmps := tmps, defers := [] } ((((W.setCell ⟨g, 0, none⟩ v0).setCell ⟨g, 1, none⟩ v1).setCell ⟨g, 2, none⟩ v2).setCell ⟨g, 3, none⟩ v3) := by
  have h1 := (((hB.set_ 0 v0).set_ 1 v1).set_ 2 v2).set_ 3 v3
  simp only [List.set_cons_succ, List.set_cons_zero] at h1
  refine bodyPost_ret (results_row_tmp2_16 hf _ _ g _ _ (0, 0) _ hp h1 Try.underlying34 rfl (by kernel_rfl)) rfl ?_
  exact ⟨t, a, k, A', n', c', es, by rw [← he, hu, hv], Lib.hid (hE.own (only4p W g v0 v1 v2 v3) hg hB (by decide) (by decide)), Lib.hid hq⟩
/-- The end where the result's cells are those of a block that is known. -/
theorem pb_blk {f : Func} {p u v g : Nat} {tmps : Array Value} {w W : World} {v0 v1 v2 v3 : Value} {x : Value} {a k : Int}
    (hf : f.results = #[.cell p 34, .tmp u, .tmp v]) (hp : tmps.getD p undef = .pointer (some ⟨g, 0, none⟩)) (hu : tmps.getD u undef = .int .i64 a) (hv : tmps.getD v undef = .int .i64 k)
    (hB : Blk W g 34 [v0, v1, v2, v3]) (hb : Bel w W) (he : Value.agg #[v0, v1, v2, v3] = x) :
    bodyPost Try.prog f (PB x a k w) .ret { tmps := tmps, defers := [] } W := by
  refine bodyPost_ret (results_row_tmp2_16 hf _ _ g _ _ (0, 0) _ hp hB Try.underlying34 rfl (by kernel_rfl)) rfl ?_
  exact ⟨by rw [← he, hu, hv], hb⟩
end Go.Proofs.Yteclclidibmajaa

namespace Go.Proofs.Yteclclidibmajaa
open Go.RowKit Go.BigFrame NT
set_option linter.unusedVariables false
set_option linter.unusedSimpArgs false
set_option maxRecDepth 100000

abbrev zSV : Value := .agg #[.int .i64 0, .string ⟨#[]⟩, .string ⟨#[]⟩, .string ⟨#[]⟩]
theorem bel3_16 (w : World) (a b c : Obj) : Bel w (((w.alloc a).alloc b).alloc c) := ((Bel.alloc _ _).trans (Bel.alloc _ _)).trans (Bel.alloc _ _)
theorem blk_at2_16 (w : World) (a b : Obj) {T : TypeId} (L : List Value) : Blk (((w.alloc a).alloc b).alloc (.cells L.toArray T)) (w.heap.size + 1 + 1) T L := by
  have := blk_at1h (w.alloc a) b T L
  rwa [show (w.alloc a).heap.size = w.heap.size + 1 by simp] at this
set_option maxHeartbeats 6400000 in
theorem fail_c (x : NT) (k : Int) (w : World) : Calls Try.prog 72 #[nV x, .int .i64 k] w (PB zSV x.a k w) := by
  have HB0 := Lib.hid ((Bel.alloc w (.cells #[.int .i64 x.k, .int .i64 x.a, .string x.s, .string x.p, .bool x.h, .bool x.e, .slice x.A x.b.length x.c, .slice x.B x.l.length x.d] 47)).trans (Bel.alloc (w.alloc (.cells #[.int .i64 x.k, .int .i64 x.a, .string x.s, .string x.p, .bool x.h, .bool x.e, .slice x.A x.b.length x.c, .slice x.B x.l.length x.d] 47)) (.cells #[.int .i64 0, .string ⟨#[]⟩, .string ⟨#[]⟩, .string ⟨#[]⟩] 34)))
  have HN := Lib.hid ((show Blk (w.alloc (.cells #[.int .i64 x.k, .int .i64 x.a, .string x.s, .string x.p, .bool x.h, .bool x.e, .slice x.A x.b.length x.c, .slice x.B x.l.length x.d] 47)) w.heap.size 47 x.cs from Blk.new w 47 x.cs).alloc (.cells #[.int .i64 0, .string ⟨#[]⟩, .string ⟨#[]⟩, .string ⟨#[]⟩] 34))
  have HR := Lib.hid (blk_at1h w (.cells #[.int .i64 x.k, .int .i64 x.a, .string x.s, .string x.p, .bool x.h, .bool x.e, .slice x.A x.b.length x.c, .slice x.B x.l.length x.d] 47) 34 [.int .i64 0, .string ⟨#[]⟩, .string ⟨#[]⟩, .string ⟨#[]⟩])
  go_enter Try.func72, Try.ntmps72
  go_wp2_with fail
  refine region_begin (T := [w.heap.size + 1]) (by kernel_rfl) ?_
  have HBd := Lib.hid (HB0.out.trans (Bel.drew _))
  have HNd := Lib.hid HN.out.drew
  have HRd := Lib.hid HR.out.drew
  generalize (World.alloc _ (.cells #[.int .i64 0, .string ⟨#[]⟩, .string ⟨#[]⟩, .string ⟨#[]⟩] 34)).drew = W at HBd HNd HRd ⊢
  have c1 : ∀ X : Later [w.heap.size + 1] W, X.w.cell? ⟨w.heap.size, 1, none⟩ = some (.int .i64 x.a) := fun X => (HNd.out.only X.h (by simp)).cell 1
  refine region_seg [false, true, true, true] 4 (by kernel_rfl) (by kernel_rfl) (by kernel_rfl) rfl (fun _ _ d _ _ h => by cases d <;> exact h) ?_
  repeat (first | with_reducible refine wpMask_pass ?_ | (refine wpMask_want (by rfl) (fun K hK => ?_); go_big_quiet_op; refine hK _ ?_; clear hK K))
  with_reducible refine wpMask_nil ?_
  refine region_make 0 (v := zSV) (w1 := W) (by kernel_rfl) rfl (by rfl) (by go_simp) (Only.refl _ _) ?_
  simp only [List.getElem_toArray, List.getElem_cons_zero, List.getElem_cons_succ, Act.put, List.setIfInBounds_toArray, List.set_cons_zero, List.set_cons_succ]
  obtain ⟨k0, k1, k2, k3⟩ := cells4 HRd.out
  obtain ⟨y0, y1, y2, y3⟩ := frees4 HRd.out
  have hO := only4p W (w.heap.size + 1) (.int .i64 0) (.string ⟨#[]⟩) (.string ⟨#[]⟩) (.string ⟨#[]⟩)
  have hK := (((HRd.out.set_ 0 (.int .i64 0)).set_ 1 (.string ⟨#[]⟩)).set_ 2 (.string ⟨#[]⟩)).set_ 3 (.string ⟨#[]⟩)
  simp only [List.set_cons_succ, List.set_cons_zero] at hK
  have HK := Lib.hid hK
  have HB4 := Lib.hid (bel_on1 HBd.out hO (by omega))
  refine region_store 4 (w1 := ((((W.setCell ⟨w.heap.size + 1, 0, none⟩ (.int .i64 0)).setCell ⟨w.heap.size + 1, 1, none⟩ (.string ⟨#[]⟩)).setCell ⟨w.heap.size + 1, 2, none⟩ (.string ⟨#[]⟩)).setCell ⟨w.heap.size + 1, 3, none⟩ (.string ⟨#[]⟩))) (by kernel_rfl) rfl (by rfl) (by go_simp) hO ?_
  simp only [List.getElem_toArray, List.getElem_cons_zero, List.getElem_cons_succ, Act.put, List.setIfInBounds_toArray, List.set_cons_zero, List.set_cons_succ]
  clear c1 k0 k1 k2 k3 y0 y1 y2 y3 hO hK
  generalize ((((W.setCell ⟨w.heap.size + 1, 0, none⟩ (.int .i64 0)).setCell ⟨w.heap.size + 1, 1, none⟩ (.string ⟨#[]⟩)).setCell ⟨w.heap.size + 1, 2, none⟩ (.string ⟨#[]⟩)).setCell ⟨w.heap.size + 1, 3, none⟩ (.string ⟨#[]⟩)) = W4 at HK HB4 ⊢
  refine region_seg [false, false, false, false, false, true, true] 0 (by kernel_rfl) (by kernel_rfl) (by kernel_rfl) rfl (fun _ _ d _ _ h => by cases d <;> exact h) ?_
  repeat (first | with_reducible refine wpMask_pass ?_ | (refine wpMask_want (by rfl) (fun K hK => ?_); go_big_quiet_op; refine hK _ ?_; clear hK K))
  with_reducible refine wpMask_nil ?_
  refine region_end (by kernel_rfl) ?_
  go_wp2_with fail
  exact pb_blk rfl rfl rfl rfl HK.out HB4.out rfl
set_option maxHeartbeats 6400000 in
theorem call_c (s : HS) (x : NT) (w : World) : Calls Try.prog 43 #[.agg #[.int .i64 (s.c : Nat), .string (ofL s.n), .string (ofL s.a), .string (ofL s.p)], nV x] w
    (if eqH s (s0 0) = true then PB (.agg #[.int .i64 (s.c : Nat), .string (ofL s.n), .string (ofL s.a), .string (ofL s.p)]) 0 0 w else PB zSV x.a 15 w) := by
  have hgp := st_guard
  cases hq : eqH s (s0 0) with
  | true =>
    have hcmp : ∀ W, (binOp .neq 34 (.agg #[.int .i64 (s.c : Nat), .string (ofL s.n), .string (ofL s.a), .string (ofL s.p)]) (.agg #[.int .i64 0, .string ⟨#[]⟩, .string ⟨#[]⟩, .string ⟨#[]⟩])).run Try.prog W = .ok (.bool false) W := fun W => by have h := pst_neq s (s0 0) W; rw [hq] at h; exact h
    rw [if_pos rfl]
    clear hq
    go_enter Try.func43, Try.ntmps43
    go_wp2_with fail
    exact pb_blk rfl rfl rfl rfl (blk_at2_16 w _ _ [.int .i64 (s.c : Nat), .string (ofL s.n), .string (ofL s.a), .string (ofL s.p)]) (bel3_16 w _ _ _) rfl
  | false =>
    have hcmp : ∀ W, (binOp .neq 34 (.agg #[.int .i64 (s.c : Nat), .string (ofL s.n), .string (ofL s.a), .string (ofL s.p)]) (.agg #[.int .i64 0, .string ⟨#[]⟩, .string ⟨#[]⟩, .string ⟨#[]⟩])).run Try.prog W = .ok (.bool true) W := fun W => by have h := pst_neq s (s0 0) W; rw [hq] at h; exact h
    rw [if_neg (by decide)]
    clear hq
    have HR0 := Lib.hid (show Blk (((w.alloc (.cells #[.int .i64 (s.c : Nat), .string (ofL s.n), .string (ofL s.a), .string (ofL s.p)] 34)).alloc (.cells #[.int .i64 x.k, .int .i64 x.a, .string x.s, .string x.p, .bool x.h, .bool x.e, .slice x.A x.b.length x.c, .slice x.B x.l.length x.d] 47)).alloc (.cells #[.int .i64 0, .string ⟨#[]⟩, .string ⟨#[]⟩, .string ⟨#[]⟩] 34)) (w.heap.size + 1 + 1) 34 [.int .i64 0, .string ⟨#[]⟩, .string ⟨#[]⟩, .string ⟨#[]⟩] from blk_at2_16 w _ _ _)
    have HB0 := Lib.hid (show Bel w (((w.alloc (.cells #[.int .i64 (s.c : Nat), .string (ofL s.n), .string (ofL s.a), .string (ofL s.p)] 34)).alloc (.cells #[.int .i64 x.k, .int .i64 x.a, .string x.s, .string x.p, .bool x.h, .bool x.e, .slice x.A x.b.length x.c, .slice x.B x.l.length x.d] 47)).alloc (.cells #[.int .i64 0, .string ⟨#[]⟩, .string ⟨#[]⟩, .string ⟨#[]⟩] 34)) from bel3_16 w _ _ _)
    go_enter Try.func43, Try.ntmps43
    go_wp2_with (go_at_call 72; ((with_reducible refine (fail_c x 15 _).mono ?_); rintro e w2 ⟨rfl, hb⟩; have HR := Lib.hid (HR0.out.belh hb); have HB := Lib.hid (HB0.out.trans hb); clear hb; obtain ⟨k0, k1, k2, k3⟩ := cells4 HR.out; obtain ⟨y0, y1, y2, y3⟩ := frees4 HR.out))
    have hK := (((HR.out.set_ 0 (.int .i64 0)).set_ 1 (.string ⟨#[]⟩)).set_ 2 (.string ⟨#[]⟩)).set_ 3 (.string ⟨#[]⟩)
    simp only [List.set_cons_succ, List.set_cons_zero] at hK
    exact pb_blk rfl rfl rfl rfl hK (bel_on1 HB.out (only4p _ _ _ _ _ _) (by omega)) rfl
end Go.Proofs.Yteclclidibmajaa

namespace Go.Proofs.Yteclclidibmajaa
open Go.RowKit Go.BigFrame NT
set_option linter.unusedVariables false
set_option linter.unusedSimpArgs false
set_option maxRecDepth 100000

/-- One row more is appended, and the analysis holds it. -/
theorem Ev.push {B rr : Nat} {w W w6 : World} {A0 A A' : Option Addr} {n c m c' N : Nat} {es new : List Nat} (h : Ev B rr w A0 W A n c es) (hm : m = new.length) (hN : N = n + m) (hR : RowAt w6 3 A' N c' (vin es ++ vin new)) (hO : Only (rowT A) W w6)
    (hK : ∀ k, k ∈ rowT A' → k ∈ rowT A ∨ W.heap.size ≤ k) : Ev B rr w A0 (w6.setCell ⟨rr, 0, none⟩ (.slice A' N c')) A' N c' (es ++ new) := by
  have hX : Blk w6 rr 51 [.slice A n c] := h.an.blk.only hO (h.an.row.ne_blk h.an.blk (by decide))
  have hO7 : Only [rr] w6 (w6.setCell ⟨rr, 0, none⟩ (.slice A' N c')) := (Only.refl _ _).setCell (.inl (by simp)) _
  have hr := hR.ne_blk hX (by decide)
  refine ⟨⟨by have := hX.set_ 0 (.slice A' N c'); simpa using this, by rw [List.length_append, ← h.an.len, ← hm, hN], ?_, h.an.lo, fun k hk => ?_⟩, ?_, fun k hk => ?_⟩
  · rw [vin_append]
    exact hR.only hO7 (fun k hk hm => by rw [List.mem_singleton] at hm; subst hm; exact hr hk)
  · rcases hK k hk with h1 | h1
    · exact h.an.low k h1
    · exact Nat.le_trans h.an.size h1
  · refine (h.only.join hO (fun i hi => ?_)).setCell (.inl (by simp)) _
    exact (h.sub i hi).imp (fun h => List.mem_cons_of_mem _ h) id
  · rcases hK k hk with h1 | h1
    · exact h.sub k h1
    · exact .inr (Nat.le_trans h.only.size h1)
/-- The blocks that a function of a state and a node starts with: the state, the node, the result. -/
structure P30 (w w1 : World) (s : HS) (x : NT) : Prop where
  b0 : Blk w1 w.heap.size 34 (sC s)
  b1 : Blk w1 (w.heap.size + 1) 47 x.cs
  b2 : Blk w1 (w.heap.size + 1 + 1) 34 [.int .i64 0, .string ⟨#[]⟩, .string ⟨#[]⟩, .string ⟨#[]⟩]
abbrev w3p (w : World) (s : HS) (x : NT) : World := ((w.alloc (.cells #[.int .i64 (s.c : Nat), .string (ofL s.n), .string (ofL s.a), .string (ofL s.p)] 34)).alloc (.cells #[.int .i64 x.k, .int .i64 x.a, .string x.s, .string x.p, .bool x.h, .bool x.e, .slice x.A x.b.length x.c, .slice x.B x.l.length x.d] 47)).alloc (.cells #[.int .i64 0, .string ⟨#[]⟩, .string ⟨#[]⟩, .string ⟨#[]⟩] 34)
theorem p30_start (w : World) (s : HS) (x : NT) : P30 w (w3p w s x) s x :=
  ⟨((Blk.new w 34 (sC s)).alloc _).alloc _, (blk_at1h w _ 47 x.cs).alloc _, blk_at2_16 w _ _ _⟩
theorem P30.later {w w1 w2 : World} {s : HS} {x : NT} (h : P30 w w1 s x) (hb : Bel w1 w2) : P30 w w2 s x := ⟨h.b0.belh hb, h.b1.belh hb, h.b2.belh hb⟩
theorem P30.keep {B rr : Nat} {w w1 w2 : World} {A : Option Addr} {n c : Nat} {es : List Nat} {s : HS} {x : NT} (h : P30 w w1 s x) (hA : An B rr w1 A n c es) (hO : Only (rr :: rowT A) w1 w2) : P30 w w2 s x :=
  ⟨hA.keep hO h.b0 (by decide) (by decide), hA.keep hO h.b1 (by decide) (by decide), hA.keep hO h.b2 (by decide) (by decide)⟩
theorem P30.row {w w1 w2 : World} {A : Option Addr} {n c : Nat} {xs : List Value} {s : HS} {x : NT} (h : P30 w w1 s x) (hA : RowAt w1 3 A n c xs) (hO : Only (rowT A) w1 w2) : P30 w w2 s x :=
  ⟨h.b0.only hO (hA.ne_blk h.b0 (by decide)), h.b1.only hO (hA.ne_blk h.b1 (by decide)), h.b2.only hO (hA.ne_blk h.b2 (by decide))⟩
set_option maxHeartbeats 6400000 in
theorem print_c (s : HS) (hi : Inv s) (x : NT) (done : List Nat) (B rr : Nat) (A : Option Addr) (n c : Nat) (w : World) (hA : An B rr w A n c done) (hle : n + 1 ≤ 100000) :
    Calls Try.prog 42 #[.pointer (some ⟨rr, 0, none⟩), .agg #[.int .i64 (s.c : Nat), .string (ofL s.n), .string (ofL s.a), .string (ofL s.p)], nV x] w
      (PP (if (escS s).2 = true then .ok s [(escS s).1] else .no x.a 15) done B rr w A) := by
  have HES := Lib.hid (fun W => show Calls Try.prog 71 #[.agg #[.int .i64 (s.c : Nat), .string (ofL s.n), .string (ofL s.a), .string (ofL s.p)]] W _ from pesc_c s hi W)
  generalize escS s = q at HES ⊢
  obtain ⟨ke, be⟩ := q
  have HP0 := Lib.hid (p30_start w s x)
  have HE0 := Lib.hid ((Ev.refl hA).bel (show Bel w (w3p w s x) from bel3_16 w _ _ _))
  have hrr := hA.blk.lt
  obtain ⟨i0, ji, jz0, jz1, jz2⟩ := info_int16
  have HI0 := Lib.hid ji
  have HZ0 := Lib.hid jz0
  have HZ1 := Lib.hid jz1
  have HZ2 := Lib.hid jz2
  have HH1 := Lib.hid (show n + 1 ≤ maxLen by unfold maxLen; omega)
  have HH2 := Lib.hid (show (n + 1) * 8 ≤ 140737488355328 by omega)
  clear ji jz0 jz1 jz2 hle hA
  cases be
  case' false =>
    rw [if_neg (by simp)]
    go_enter Try.func42, Try.ntmps42
    go_wp2_with (first
      | (go_at_call 71; ((with_reducible refine (HES.out _).mono ?_); rintro e w2 ⟨rfl, hb⟩; have HP1 := Lib.hid (HP0.out.later hb); have HE1 := Lib.hid (HE0.out.bel hb); clear hb; obtain ⟨x0', x1', x2', x3', x4', x5', x6', x7'⟩ := cells8 HP1.out.b1))
      | (go_at_call 72; ((with_reducible refine (fail_c x 15 _).mono ?_); rintro e w3 ⟨rfl, hb⟩; have HP2 := Lib.hid (HP1.out.later hb); have HE2 := Lib.hid (HE1.out.bel hb); clear hb; obtain ⟨k0, k1, k2, k3⟩ := cells4 HP2.out.b2; obtain ⟨y0, y1, y2, y3⟩ := frees4 HP2.out.b2)))
    exact pp_set rfl rfl rfl rfl HP2.out.b2 (by omega) HE2.out (t := s0 0) rfl ⟨rfl, rfl, rfl, by decide⟩
  case' true =>
    rw [if_pos rfl]
    go_enter Try.func42, Try.ntmps42
    go_wp2_with (first
      | (go_at_call 71; ((with_reducible refine (HES.out _).mono ?_); rintro e w2 ⟨rfl, hb⟩; have HP1 := Lib.hid ((HP0.out.later hb).later (Bel.alloc w2 (.cells #[.int .i64 (ke : Nat)] 3))); have HE1 := Lib.hid ((HE0.out.bel hb).bel (Bel.alloc w2 (.cells #[.int .i64 (ke : Nat)] 3))); have g0 := (HE0.out.bel hb).an.blk.cell 0; have HRD := Lib.hid HE1.out.an.row; have HRX := Lib.hid (RowAt.reads (RowAt.of_blk (Blk.new w2 3 [.int .i64 (ke : Nat)]) (by show 1 ≤ maxLen; decide))); have HAX := Lib.hid HE1.out.an.blk; have HNX := Lib.hid (HE1.out.an.row.ne_blk HE1.out.an.blk (by decide)); clear hb))
      | ((with_reducible refine wp_rowAppend rfl (.tmp 27) (.tmp 29) 24 rfl 3 i0 _ 8 Try.underlying24 HI0.out HZ0.out HZ1.out HZ2.out rfl A n c (vin done) rfl HRD.out _ (some ⟨w2.heap.size, 0, none⟩) 1 1 (vin [ke]) rfl HRX.out (vin_one _) HH1.out HH2.out (n + 1) rfl ?_); intro A' c' w6 HR6 hO6 HK6; have HE6 := Lib.hid (Ev.push HE1.out (new := [ke]) rfl rfl HR6.out hO6 HK6.out); have HP6 := Lib.hid (HP1.out.row HRD.out hO6); have HX6 := Lib.hid (HAX.out.only hO6 HNX.out); have g6 := HX6.out.cell 0; have f6 := HX6.out.free 0; obtain ⟨k0, k1, k2, k3⟩ := cells4 HP6.out.b2; obtain ⟨y0, y1, y2, y3⟩ := frees4 HP6.out.b2; obtain ⟨s0', s1', s2', s3'⟩ := cells4 HP6.out.b0))
    exact pp_set rfl rfl rfl rfl (HP6.out.b2.only ((Only.refl [rr] _).setCell (.inl (by simp)) _) (by simp; omega)) (by omega) HE6.out (t := s) rfl ⟨rfl, rfl, rfl, rfl⟩
end Go.Proofs.Yteclclidibmajaa

namespace Go.Proofs.Yteclclidibmajaa
open Go.RowKit Go.BigFrame NT
set_option linter.unusedVariables false
set_option linter.unusedSimpArgs false
set_option maxRecDepth 100000

/-- The blocks that block starts with: the state, the start, the node, the result. -/
structure P40 (w w1 : World) (s u : HS) (x : NT) : Prop where
  b0 : Blk w1 w.heap.size 34 (sC s)
  b1 : Blk w1 (w.heap.size + 1) 34 (sC u)
  b2 : Blk w1 (w.heap.size + 1 + 1) 47 x.cs
  b3 : Blk w1 (w.heap.size + 1 + 1 + 1) 34 [.int .i64 0, .string ⟨#[]⟩, .string ⟨#[]⟩, .string ⟨#[]⟩]
abbrev w4p (w : World) (s u : HS) (x : NT) : World := (((w.alloc (.cells #[.int .i64 (s.c : Nat), .string (ofL s.n), .string (ofL s.a), .string (ofL s.p)] 34)).alloc (.cells #[.int .i64 (u.c : Nat), .string (ofL u.n), .string (ofL u.a), .string (ofL u.p)] 34)).alloc (.cells #[.int .i64 x.k, .int .i64 x.a, .string x.s, .string x.p, .bool x.h, .bool x.e, .slice x.A x.b.length x.c, .slice x.B x.l.length x.d] 47)).alloc (.cells #[.int .i64 0, .string ⟨#[]⟩, .string ⟨#[]⟩, .string ⟨#[]⟩] 34)
theorem p40_start (w : World) (s u : HS) (x : NT) : P40 w (w4p w s u x) s u x := by
  refine ⟨(((Blk.new w 34 (sC s)).alloc _).alloc _).alloc _, ((blk_at1h w _ 34 (sC u)).alloc _).alloc _, (blk_at2_16 w _ _ (T := 47) x.cs).alloc _, ?_⟩
  have := blk_at2_16 (w.alloc (.cells #[.int .i64 (s.c : Nat), .string (ofL s.n), .string (ofL s.a), .string (ofL s.p)] 34)) (.cells #[.int .i64 (u.c : Nat), .string (ofL u.n), .string (ofL u.a), .string (ofL u.p)] 34) (.cells #[.int .i64 x.k, .int .i64 x.a, .string x.s, .string x.p, .bool x.h, .bool x.e, .slice x.A x.b.length x.c, .slice x.B x.l.length x.d] 47) (T := 34) [.int .i64 0, .string ⟨#[]⟩, .string ⟨#[]⟩, .string ⟨#[]⟩]
  rw [show (w.alloc (.cells #[.int .i64 (s.c : Nat), .string (ofL s.n), .string (ofL s.a), .string (ofL s.p)] 34)).heap.size = w.heap.size + 1 by simp] at this
  exact this
theorem P40.later {w w1 w2 : World} {s u : HS} {x : NT} (h : P40 w w1 s u x) (hb : Bel w1 w2) : P40 w w2 s u x := ⟨h.b0.belh hb, h.b1.belh hb, h.b2.belh hb, h.b3.belh hb⟩
theorem P40.keep {B rr : Nat} {w w1 w2 : World} {A : Option Addr} {n c : Nat} {es : List Nat} {s u : HS} {x : NT} (h : P40 w w1 s u x) (hA : An B rr w1 A n c es) (hO : Only (rr :: rowT A) w1 w2) : P40 w w2 s u x :=
  ⟨hA.keep hO h.b0 (by decide) (by decide), hA.keep hO h.b1 (by decide) (by decide), hA.keep hO h.b2 (by decide) (by decide), hA.keep hO h.b3 (by decide) (by decide)⟩
theorem bel4_16 (w : World) (a b c d : Obj) : Bel w ((((w.alloc a).alloc b).alloc c).alloc d) := (bel3_16 w a b c).trans (Bel.alloc _ _)
/-- The call of list for a block of nodes. -/
abbrev PLc (B rr : Nat) (w : World) (u : HS) (A : Option Addr) (c : Nat) (l : List NT) : Prop := ∀ W A1 n1 c1 done1, Below B w W → An B rr W A1 n1 c1 done1 → n1 + tots l ≤ 100000 →
  Calls Try.prog 18 #[.pointer (some ⟨rr, 0, none⟩), .agg #[.int .i64 (u.c : Nat), .string (ofL u.n), .string (ofL u.a), .string (ofL u.p)], .slice A l.length c] W (PP (listI u l) done1 B rr W A1)
set_option maxHeartbeats 6400000 in
theorem iblock_c (s u : HS) (x : NT) (done : List Nat) (B rr : Nat) (A : Option Addr) (n c : Nat) (w : World) (hA : An B rr w A n c done) (hle : n + tots x.b ≤ 100000) (hl : PLc B rr w u x.A x.c x.b) :
    Calls Try.prog 45 #[.pointer (some ⟨rr, 0, none⟩), .agg #[.int .i64 (s.c : Nat), .string (ofL s.n), .string (ofL s.a), .string (ofL s.p)], .agg #[.int .i64 (u.c : Nat), .string (ofL u.n), .string (ofL u.a), .string (ofL u.p)], nV x] w
      (PP ((listI u x.b).next fun s1 e1 => if eqH s1 u = true then .ok s e1 else .no x.a 16) done B rr w A) := by
  have HP0 := Lib.hid (p40_start w s u x)
  have HE0 := Lib.hid ((Ev.refl hA).bel (show Bel w (w4p w s u x) from bel4_16 w _ _ _ _))
  have HL := Lib.hid (hl (w4p w s u x) A n c done (HE0.out.below hA) HE0.out.an hle)
  have hrr := hA.blk.lt
  have hgp := st_guard
  clear hle hA hl
  cases hr : listI u x.b with
  | no a1 e1 =>
    rw [hr] at HL
    have he := listI_err hr
    have hk0 : (e1 : Int) ≠ 0 := by omega
    have hk1 : ((e1 : Int) != 0) = true := bne_iff_ne.2 hk0
    have HE := Lib.hid (show e1 ≠ 0 by omega)
    clear hr he
    rw [IR.next_no]
    go_enter Try.func45, Try.ntmps45
    go_wp2_with (go_at_call 18; ((with_reducible refine (HL.out).mono ?_); rintro e w2 ⟨t, a, k, A', n', c', es, rfl, hE, hQ⟩; obtain ⟨ht, rfl, rfl, hne⟩ := hQ.out; have HP2 := Lib.hid ((HP0.out.keep HE0.out.an hE.out.only).later (Bel.alloc w2 (.cells #[.int .i64 (t.c : Nat), .string (ofL t.n), .string (ofL t.a), .string (ofL t.p)] 34))); have HE2 := Lib.hid ((HE0.out.then hE.out).bel (Bel.alloc w2 (.cells #[.int .i64 (t.c : Nat), .string (ofL t.n), .string (ofL t.a), .string (ofL t.p)] 34))); clear hE hQ hne ht; obtain ⟨k0, k1, k2, k3⟩ := cells4 HP2.out.b3; obtain ⟨y0, y1, y2, y3⟩ := frees4 HP2.out.b3))
    refine pp_set rfl rfl rfl rfl HP2.out.b3 (by omega) HE2.out (t := s0 0) rfl ?_
    exact ⟨rfl, rfl, rfl, HE.out⟩
  | ok s1 es1 =>
    rw [hr] at HL
    rw [IR.next_ok]
    clear hr
    cases hq : eqH s1 u with
    | true =>
      have hcmp : ∀ W, (binOp .neq 34 (.agg #[.int .i64 (s1.c : Nat), .string (ofL s1.n), .string (ofL s1.a), .string (ofL s1.p)]) (.agg #[.int .i64 (u.c : Nat), .string (ofL u.n), .string (ofL u.a), .string (ofL u.p)])).run Try.prog W = .ok (.bool false) W := fun W => by have h := pst_neq s1 u W; rw [hq] at h; exact h
      rw [if_pos rfl]
      clear hq
      go_enter Try.func45, Try.ntmps45
      go_wp2_with (go_at_call 18; ((with_reducible refine (HL.out).mono ?_); rintro e w2 ⟨t, a, k, A', n', c', es, rfl, hE, hQ⟩; obtain ⟨rfl, rfl, rfl, rfl⟩ := hQ.out; have HP2 := Lib.hid ((HP0.out.keep HE0.out.an hE.out.only).later (Bel.alloc w2 (.cells #[.int .i64 (t.c : Nat), .string (ofL t.n), .string (ofL t.a), .string (ofL t.p)] 34))); have HE2 := Lib.hid ((HE0.out.then hE.out).bel (Bel.alloc w2 (.cells #[.int .i64 (t.c : Nat), .string (ofL t.n), .string (ofL t.a), .string (ofL t.p)] 34))); clear hE hQ; obtain ⟨k0, k1, k2, k3⟩ := cells4 HP2.out.b3; obtain ⟨y0, y1, y2, y3⟩ := frees4 HP2.out.b3; obtain ⟨s0', s1', s2', s3'⟩ := cells4 HP2.out.b0; obtain ⟨u0', u1', u2', u3'⟩ := cells4 HP2.out.b1))
      refine pp_set rfl rfl rfl rfl HP2.out.b3 (by omega) HE2.out (t := s) rfl ?_
      exact ⟨rfl, rfl, rfl, rfl⟩
    | false =>
      have hcmp : ∀ W, (binOp .neq 34 (.agg #[.int .i64 (s1.c : Nat), .string (ofL s1.n), .string (ofL s1.a), .string (ofL s1.p)]) (.agg #[.int .i64 (u.c : Nat), .string (ofL u.n), .string (ofL u.a), .string (ofL u.p)])).run Try.prog W = .ok (.bool true) W := fun W => by have h := pst_neq s1 u W; rw [hq] at h; exact h
      rw [if_neg (by decide)]
      clear hq
      go_enter Try.func45, Try.ntmps45
      go_wp2_with (first
        | (go_at_call 18; ((with_reducible refine (HL.out).mono ?_); rintro e w2 ⟨t, a, k, A', n', c', es, rfl, hE, hQ⟩; obtain ⟨rfl, rfl, rfl, rfl⟩ := hQ.out; have HP2 := Lib.hid ((HP0.out.keep HE0.out.an hE.out.only).later (Bel.alloc w2 (.cells #[.int .i64 (t.c : Nat), .string (ofL t.n), .string (ofL t.a), .string (ofL t.p)] 34))); have HE2 := Lib.hid ((HE0.out.then hE.out).bel (Bel.alloc w2 (.cells #[.int .i64 (t.c : Nat), .string (ofL t.n), .string (ofL t.a), .string (ofL t.p)] 34))); clear hE hQ; obtain ⟨u0', u1', u2', u3'⟩ := cells4 HP2.out.b1; obtain ⟨x0', x1', x2', x3', x4', x5', x6', x7'⟩ := cells8 HP2.out.b2))
        | (go_at_call 72; ((with_reducible refine (fail_c x 16 _).mono ?_); rintro e w3 ⟨rfl, hb⟩; have HP3 := Lib.hid (HP2.out.later hb); have HE3 := Lib.hid (HE2.out.bel hb); clear hb; obtain ⟨k0, k1, k2, k3⟩ := cells4 HP3.out.b3; obtain ⟨y0, y1, y2, y3⟩ := frees4 HP3.out.b3)))
      refine pp_set rfl rfl rfl rfl HP3.out.b3 (by omega) HE3.out (t := s0 0) rfl ?_
      exact ⟨rfl, rfl, rfl, by decide⟩
end Go.Proofs.Yteclclidibmajaa

namespace Go.Proofs.Yteclclidibmajaa
open Go.RowKit Go.BigFrame NT
set_option linter.unusedVariables false
set_option linter.unusedSimpArgs false
set_option maxRecDepth 100000

set_option maxHeartbeats 6400000 in
theorem branches_c (s : HS) (x : NT) (done : List Nat) (B rr : Nat) (A : Option Addr) (n c : Nat) (w : World) (hA : An B rr w A n c done) (hle : n + tots x.b + tots x.l ≤ 100000) (hb : PLc B rr w s x.A x.c x.b) (hl : PLc B rr w s x.B x.d x.l) :
    Calls Try.prog 44 #[.pointer (some ⟨rr, 0, none⟩), .agg #[.int .i64 (s.c : Nat), .string (ofL s.n), .string (ofL s.a), .string (ofL s.p)], nV x] w
      (PP ((listI s x.b).next fun s1 e1 => (listI s x.l).next fun s2 e2 => if eqH s1 s2 = true then .ok s1 (e1 ++ e2) else .no x.a 16) done B rr w A) := by
  have HP0 := Lib.hid (p30_start w s x)
  have HE0 := Lib.hid ((Ev.refl hA).bel (show Bel w (w3p w s x) from bel3_16 w _ _ _))
  have HL := Lib.hid (hb (w3p w s x) A n c done (HE0.out.below hA) HE0.out.an (by omega))
  have HA := Lib.hid hA
  have hrr := hA.blk.lt
  have hgp := st_guard
  clear hb
  cases hr : listI s x.b with
  | no a1 e1 =>
    rw [hr] at HL
    have he := listI_err hr
    have hk0 : (e1 : Int) ≠ 0 := by omega
    have hk1 : ((e1 : Int) != 0) = true := bne_iff_ne.2 hk0
    have HE := Lib.hid (show e1 ≠ 0 by omega)
    clear hr he hle hA hl
    rw [IR.next_no]
    go_enter Try.func44, Try.ntmps44
    go_wp2_with (go_at_call 18; ((with_reducible refine (HL.out).mono ?_); rintro e w2 ⟨t, a, k, A', n', c', es, rfl, hE, hQ⟩; obtain ⟨ht, rfl, rfl, hne⟩ := hQ.out; have HP2 := Lib.hid ((HP0.out.keep HE0.out.an hE.out.only).later (Bel.alloc w2 (.cells #[.int .i64 (t.c : Nat), .string (ofL t.n), .string (ofL t.a), .string (ofL t.p)] 34))); have HE2 := Lib.hid ((HE0.out.then hE.out).bel (Bel.alloc w2 (.cells #[.int .i64 (t.c : Nat), .string (ofL t.n), .string (ofL t.a), .string (ofL t.p)] 34))); clear hE hQ hne ht; obtain ⟨k0, k1, k2, k3⟩ := cells4 HP2.out.b2; obtain ⟨y0, y1, y2, y3⟩ := frees4 HP2.out.b2))
    refine pp_set rfl rfl rfl rfl HP2.out.b2 (by omega) HE2.out (t := s0 0) rfl ?_
    exact ⟨rfl, rfl, rfl, HE.out⟩
  | ok s1 es1 =>
    rw [hr] at HL
    rw [IR.next_ok]
    have HLE := Lib.hid (listI_le hr)
    have HLN := Lib.hid hle
    have HL2 := Lib.hid hl
    clear hr hle hA hl
    cases hr2 : listI s x.l with
    | no a1 e1 =>
      unfold PLc at HL2
      simp only [hr2] at HL2
      have he := listI_err hr2
      have hk0 : (e1 : Int) ≠ 0 := by omega
      have hk1 : ((e1 : Int) != 0) = true := bne_iff_ne.2 hk0
      have HE := Lib.hid (show e1 ≠ 0 by omega)
      clear hr2 he
      rw [IR.next_no]
      go_enter Try.func44, Try.ntmps44
      go_wp2_with (first
        | (go_at_call 18; ((with_reducible refine (HL.out).mono ?_); rintro e w2 ⟨t, a, k, A', n', c', es, rfl, hE, hQ⟩; obtain ⟨rfl, rfl, rfl, rfl⟩ := hQ.out; have HP2 := Lib.hid ((HP0.out.keep HE0.out.an hE.out.only).later (Bel.alloc w2 (.cells #[.int .i64 (t.c : Nat), .string (ofL t.n), .string (ofL t.a), .string (ofL t.p)] 34))); have HE2 := Lib.hid ((HE0.out.then hE.out).bel (Bel.alloc w2 (.cells #[.int .i64 (t.c : Nat), .string (ofL t.n), .string (ofL t.a), .string (ofL t.p)] 34))); have H9 := Lib.hid (Blk.new w2 34 (sC t)); have HLL := Lib.hid (HL2.out (w2.alloc (.cells #[.int .i64 (t.c : Nat), .string (ofL t.n), .string (ofL t.a), .string (ofL t.p)] 34)) A' n' c' (done ++ es1) (HE2.out.below HA.out) HE2.out.an (by have h1 := HE2.out.an.len; have h2 := HA.out.len; have h3 := HLE.out; have h4 := HLN.out; rw [List.length_append] at h1; omega)); clear hE hQ; obtain ⟨s0', s1', s2', s3'⟩ := cells4 HP2.out.b0; obtain ⟨x0', x1', x2', x3', x4', x5', x6', x7'⟩ := cells8 HP2.out.b1))
        | (go_at_call 18; ((with_reducible refine (HLL.out).mono ?_); rintro e w4 ⟨t2, a2, k2, A2, n2, c2, es2, rfl, hE, hQ⟩; obtain ⟨ht, rfl, rfl, hne⟩ := hQ.out; have HP4 := Lib.hid ((HP2.out.keep HE2.out.an hE.out.only).later (Bel.alloc w4 (.cells #[.int .i64 (t2.c : Nat), .string (ofL t2.n), .string (ofL t2.a), .string (ofL t2.p)] 34))); have HE4 := Lib.hid ((HE2.out.then hE.out).bel (Bel.alloc w4 (.cells #[.int .i64 (t2.c : Nat), .string (ofL t2.n), .string (ofL t2.a), .string (ofL t2.p)] 34))); clear hE hQ hne ht; obtain ⟨k0, k1, k2, k3⟩ := cells4 HP4.out.b2; obtain ⟨y0, y1, y2, y3⟩ := frees4 HP4.out.b2)))
      refine pp_set rfl rfl rfl rfl HP4.out.b2 (by omega) HE4.out (t := s0 0) rfl ?_
      exact ⟨rfl, rfl, rfl, HE.out⟩
    | ok s2 es2 =>
      unfold PLc at HL2
      simp only [hr2] at HL2
      rw [IR.next_ok]
      clear hr2
      cases hq : eqH s1 s2 with
      | true =>
        have hcmp : ∀ W, (binOp .neq 34 (.agg #[.int .i64 (s1.c : Nat), .string (ofL s1.n), .string (ofL s1.a), .string (ofL s1.p)]) (.agg #[.int .i64 (s2.c : Nat), .string (ofL s2.n), .string (ofL s2.a), .string (ofL s2.p)])).run Try.prog W = .ok (.bool false) W := fun W => by have h := pst_neq s1 s2 W; rw [hq] at h; exact h
        rw [if_pos rfl]
        clear hq
        go_enter Try.func44, Try.ntmps44
        go_wp2_with (first
          | (go_at_call 18; ((with_reducible refine (HL.out).mono ?_); rintro e w2 ⟨t, a, k, A', n', c', es, rfl, hE, hQ⟩; obtain ⟨rfl, rfl, rfl, rfl⟩ := hQ.out; have HP2 := Lib.hid ((HP0.out.keep HE0.out.an hE.out.only).later (Bel.alloc w2 (.cells #[.int .i64 (t.c : Nat), .string (ofL t.n), .string (ofL t.a), .string (ofL t.p)] 34))); have HE2 := Lib.hid ((HE0.out.then hE.out).bel (Bel.alloc w2 (.cells #[.int .i64 (t.c : Nat), .string (ofL t.n), .string (ofL t.a), .string (ofL t.p)] 34))); have H9 := Lib.hid (Blk.new w2 34 (sC t)); have HLL := Lib.hid (HL2.out (w2.alloc (.cells #[.int .i64 (t.c : Nat), .string (ofL t.n), .string (ofL t.a), .string (ofL t.p)] 34)) A' n' c' (done ++ es1) (HE2.out.below HA.out) HE2.out.an (by have h1 := HE2.out.an.len; have h2 := HA.out.len; have h3 := HLE.out; have h4 := HLN.out; rw [List.length_append] at h1; omega)); clear hE hQ; obtain ⟨s0', s1', s2', s3'⟩ := cells4 HP2.out.b0; obtain ⟨x0', x1', x2', x3', x4', x5', x6', x7'⟩ := cells8 HP2.out.b1))
          | (go_at_call 18; ((with_reducible refine (HLL.out).mono ?_); rintro e w4 ⟨t2, a2, k2, A2, n2, c2, es2', rfl, hE, hQ⟩; obtain ⟨rfl, rfl, rfl, rfl⟩ := hQ.out; have HP4 := Lib.hid ((HP2.out.keep HE2.out.an hE.out.only).later (Bel.alloc w4 (.cells #[.int .i64 (t2.c : Nat), .string (ofL t2.n), .string (ofL t2.a), .string (ofL t2.p)] 34))); have HE4 := Lib.hid ((HE2.out.then hE.out).bel (Bel.alloc w4 (.cells #[.int .i64 (t2.c : Nat), .string (ofL t2.n), .string (ofL t2.a), .string (ofL t2.p)] 34))); have H94 := Lib.hid ((HE2.out.an.keep hE.out.only H9.out (by decide) (by decide)).belh (Bel.alloc w4 (.cells #[.int .i64 (t2.c : Nat), .string (ofL t2.n), .string (ofL t2.a), .string (ofL t2.p)] 34))); have H12 := Lib.hid (Blk.new w4 34 (sC t2)); clear hE hQ; obtain ⟨p0, p1, p2, p3⟩ := cells4 H94.out; obtain ⟨k0, k1, k2, k3⟩ := cells4 HP4.out.b2; obtain ⟨y0, y1, y2, y3⟩ := frees4 HP4.out.b2)))
        refine pp_set rfl rfl rfl rfl HP4.out.b2 (by omega) HE4.out (t := t) rfl ?_
        exact ⟨rfl, rfl, rfl, by rw [List.append_assoc]⟩
      | false =>
        have hcmp : ∀ W, (binOp .neq 34 (.agg #[.int .i64 (s1.c : Nat), .string (ofL s1.n), .string (ofL s1.a), .string (ofL s1.p)]) (.agg #[.int .i64 (s2.c : Nat), .string (ofL s2.n), .string (ofL s2.a), .string (ofL s2.p)])).run Try.prog W = .ok (.bool true) W := fun W => by have h := pst_neq s1 s2 W; rw [hq] at h; exact h
        rw [if_neg (by decide)]
        clear hq
        go_enter Try.func44, Try.ntmps44
        go_wp2_with (first
          | (go_at_call 18; ((with_reducible refine (HL.out).mono ?_); rintro e w2 ⟨t, a, k, A', n', c', es, rfl, hE, hQ⟩; obtain ⟨rfl, rfl, rfl, rfl⟩ := hQ.out; have HP2 := Lib.hid ((HP0.out.keep HE0.out.an hE.out.only).later (Bel.alloc w2 (.cells #[.int .i64 (t.c : Nat), .string (ofL t.n), .string (ofL t.a), .string (ofL t.p)] 34))); have HE2 := Lib.hid ((HE0.out.then hE.out).bel (Bel.alloc w2 (.cells #[.int .i64 (t.c : Nat), .string (ofL t.n), .string (ofL t.a), .string (ofL t.p)] 34))); have H9 := Lib.hid (Blk.new w2 34 (sC t)); have HLL := Lib.hid (HL2.out (w2.alloc (.cells #[.int .i64 (t.c : Nat), .string (ofL t.n), .string (ofL t.a), .string (ofL t.p)] 34)) A' n' c' (done ++ es1) (HE2.out.below HA.out) HE2.out.an (by have h1 := HE2.out.an.len; have h2 := HA.out.len; have h3 := HLE.out; have h4 := HLN.out; rw [List.length_append] at h1; omega)); clear hE hQ; obtain ⟨s0', s1', s2', s3'⟩ := cells4 HP2.out.b0; obtain ⟨x0', x1', x2', x3', x4', x5', x6', x7'⟩ := cells8 HP2.out.b1))
          | (go_at_call 18; ((with_reducible refine (HLL.out).mono ?_); rintro e w4 ⟨t2, a2, k2, A2, n2, c2, es2', rfl, hE, hQ⟩; obtain ⟨rfl, rfl, rfl, rfl⟩ := hQ.out; have HP4 := Lib.hid ((HP2.out.keep HE2.out.an hE.out.only).later (Bel.alloc w4 (.cells #[.int .i64 (t2.c : Nat), .string (ofL t2.n), .string (ofL t2.a), .string (ofL t2.p)] 34))); have HE4 := Lib.hid ((HE2.out.then hE.out).bel (Bel.alloc w4 (.cells #[.int .i64 (t2.c : Nat), .string (ofL t2.n), .string (ofL t2.a), .string (ofL t2.p)] 34))); have H94 := Lib.hid ((HE2.out.an.keep hE.out.only H9.out (by decide) (by decide)).belh (Bel.alloc w4 (.cells #[.int .i64 (t2.c : Nat), .string (ofL t2.n), .string (ofL t2.a), .string (ofL t2.p)] 34))); have H12 := Lib.hid (Blk.new w4 34 (sC t2)); clear hE hQ; obtain ⟨p0, p1, p2, p3⟩ := cells4 H94.out; obtain ⟨z0', z1', z2', z3', z4', z5', z6', z7'⟩ := cells8 HP4.out.b1))
          | (go_at_call 72; ((with_reducible refine (fail_c x 16 _).mono ?_); rintro e w5 ⟨rfl, hb⟩; have HP5 := Lib.hid (HP4.out.later hb); have HE5 := Lib.hid (HE4.out.bel hb); clear hb; obtain ⟨k0, k1, k2, k3⟩ := cells4 HP5.out.b2; obtain ⟨y0, y1, y2, y3⟩ := frees4 HP5.out.b2)))
        refine pp_set rfl rfl rfl rfl HP5.out.b2 (by omega) HE5.out (t := s0 0) rfl ?_
        exact ⟨rfl, rfl, rfl, by decide⟩
end Go.Proofs.Yteclclidibmajaa

namespace Go.Proofs.Yteclclidibmajaa
open Go.RowKit Go.BigFrame NT
set_option linter.unusedVariables false
set_option linter.unusedSimpArgs false
set_option maxRecDepth 100000

theorem PLc.mono {B rr : Nat} {w w1 : World} {u : HS} {A : Option Addr} {c : Nat} {l : List NT} (h : PLc B rr w u A c l) (hb : Below B w w1) : PLc B rr w1 u A c l := fun W A1 n1 c1 done1 hW => h W A1 n1 c1 done1 (hb.trans hW)
theorem NT.In.siB {w : World} {Q : Nat → Prop} {t : NT} (h : t.In w Q) : t.s.size ≤ 140737488351232 := by cases h; assumption
def PM (x : NT) : Prop := ∀ (B rr : Nat) (w : World) (A : Option Addr) (n c : Nat) (done : List Nat) (s : HS), Inv s → x.In w (· < B) → An B rr w A n c done → n + x.tot ≤ 100000 →
  Calls Try.prog 25 #[.pointer (some ⟨rr, 0, none⟩), .agg #[.int .i64 (s.c : Nat), .string (ofL s.n), .string (ofL s.a), .string (ofL s.p)], nV x] w (PP (nodeI s x) done B rr w A)
set_option maxHeartbeats 6400000 in
theorem pnode_text (s : HS) (hi : Inv s) (x : NT) (done : List Nat) (B rr : Nat) (A : Option Addr) (n c : Nat) (w : World) (hA : An B rr w A n c done) (hk : x.k = 0) (hs : x.s.size ≤ 140737488351232) :
    Calls Try.prog 25 #[.pointer (some ⟨rr, 0, none⟩), .agg #[.int .i64 (s.c : Nat), .string (ofL s.n), .string (ofL s.a), .string (ofL s.p)], nV x] w (PP (nodeI s x) done B rr w A) := by
  have k0' : (x.k == 0) = true := by rw [hk]; rfl
  rw [nodeI_eq, if_pos hk]
  obtain ⟨T, hT⟩ : ∃ T, T = runS s x.s.data.toList := ⟨_, rfl⟩
  rw [← hT]
  have HRU := Lib.hid (fun W => show Calls Try.prog 13 #[.agg #[.int .i64 (s.c : Nat), .string (ofL s.n), .string (ofL s.a), .string (ofL s.p)], .string x.s] W (SvV (.agg #[.int .i64 (T.c : Nat), .string (ofL T.n), .string (ofL T.a), .string (ofL T.p)]) W) by rw [hT]; exact prunB_c s hi x.s hs W)
  have HP0 := Lib.hid (p30_start w s x)
  have HE0 := Lib.hid ((Ev.refl hA).bel (show Bel w (w3p w s x) from bel3_16 w _ _ _))
  have hrr := hA.blk.lt
  clear hT hi hk hA hs
  go_enter Try.func25, Try.ntmps25
  go_wp2_with (go_at_call 13; ((with_reducible refine (HRU.out _).mono ?_); rintro e w2 ⟨rfl, hb⟩; have HP2 := Lib.hid (HP0.out.later hb); have HE2 := Lib.hid (HE0.out.bel hb); clear hb; obtain ⟨k0, k1, k2, k3⟩ := cells4 HP2.out.b2; obtain ⟨y0, y1, y2, y3⟩ := frees4 HP2.out.b2))
  refine pp_set rfl rfl rfl rfl HP2.out.b2 (by omega) HE2.out (t := T) rfl ?_
  exact ⟨rfl, rfl, rfl, by rw [List.append_nil]⟩
set_option maxHeartbeats 6400000 in
theorem pnode_print (s : HS) (hi : Inv s) (x : NT) (done : List Nat) (B rr : Nat) (A : Option Addr) (n c : Nat) (w : World) (hA : An B rr w A n c done) (hk : x.k = 1) (hle : n + 1 ≤ 100000) :
    Calls Try.prog 25 #[.pointer (some ⟨rr, 0, none⟩), .agg #[.int .i64 (s.c : Nat), .string (ofL s.n), .string (ofL s.a), .string (ofL s.p)], nV x] w (PP (nodeI s x) done B rr w A) := by
  have k0' : (x.k == 0) = false := by rw [hk]; rfl
  have k1' : (x.k == 1) = true := by rw [hk]; rfl
  rw [nodeI_eq, if_neg (by rw [hk]; decide), if_pos hk]
  have HP0 := Lib.hid (p30_start w s x)
  have HE0 := Lib.hid ((Ev.refl hA).bel (show Bel w (w3p w s x) from bel3_16 w _ _ _))
  have hrr := hA.blk.lt
  have HC := Lib.hid (print_c s hi x done B rr A n c (w3p w s x) HE0.out.an hle)
  generalize (if (escS s).2 = true then IR.ok s [(escS s).1] else IR.no x.a 15) = r at HC ⊢
  clear hi hk hA hle
  go_enter Try.func25, Try.ntmps25
  go_wp2_with (go_at_call 42; ((with_reducible refine (HC.out).mono ?_); rintro e w2 ⟨t, a, k, A', n', c', es, rfl, hE, hQ⟩; have HP2 := Lib.hid (HP0.out.keep HE0.out.an hE.out.only); have HE2 := Lib.hid (HE0.out.then hE.out); clear hE; obtain ⟨k0, k1, k2, k3⟩ := cells4 HP2.out.b2; obtain ⟨y0, y1, y2, y3⟩ := frees4 HP2.out.b2))
  refine pp_set rfl rfl rfl rfl HP2.out.b2 (by omega) HE2.out (t := t) rfl ?_
  exact hQ.out
set_option maxHeartbeats 6400000 in
theorem pnode_if (s : HS) (hi : Inv s) (x : NT) (done : List Nat) (B rr : Nat) (A : Option Addr) (n c : Nat) (w : World) (hA : An B rr w A n c done) (hk : x.k = 2) (hle : n + tots x.b + tots x.l ≤ 100000) (hb : PLc B rr w s x.A x.c x.b) (hl : PLc B rr w s x.B x.d x.l) :
    Calls Try.prog 25 #[.pointer (some ⟨rr, 0, none⟩), .agg #[.int .i64 (s.c : Nat), .string (ofL s.n), .string (ofL s.a), .string (ofL s.p)], nV x] w (PP (nodeI s x) done B rr w A) := by
  have k0' : (x.k == 0) = false := by rw [hk]; rfl
  have k1' : (x.k == 1) = false := by rw [hk]; rfl
  have k4' : (x.k == 4) = false := by rw [hk]; rfl
  have k2' : (x.k == 2) = true := by rw [hk]; rfl
  rw [nodeI_eq, if_neg (by rw [hk]; decide), if_neg (by rw [hk]; decide), if_pos hk]
  have HP0 := Lib.hid (p30_start w s x)
  have HE0 := Lib.hid ((Ev.refl hA).bel (show Bel w (w3p w s x) from bel3_16 w _ _ _))
  have hrr := hA.blk.lt
  have HC := Lib.hid (branches_c s x done B rr A n c (w3p w s x) HE0.out.an hle (hb.mono (HE0.out.below hA)) (hl.mono (HE0.out.below hA)))
  clear hi hk hA hle hb hl
  go_enter Try.func25, Try.ntmps25
  go_wp2_with (go_at_call 44; ((with_reducible refine (HC.out).mono ?_); rintro e w2 ⟨t, a, k, A', n', c', es, rfl, hE, hQ⟩; have HP2 := Lib.hid (HP0.out.keep HE0.out.an hE.out.only); have HE2 := Lib.hid (HE0.out.then hE.out); clear hE; obtain ⟨k0, k1, k2, k3⟩ := cells4 HP2.out.b2; obtain ⟨y0, y1, y2, y3⟩ := frees4 HP2.out.b2))
  refine pp_set rfl rfl rfl rfl HP2.out.b2 (by omega) HE2.out (t := t) rfl ?_
  exact hQ.out
set_option maxHeartbeats 6400000 in
theorem pnode_range (s : HS) (hi : Inv s) (x : NT) (done : List Nat) (B rr : Nat) (A : Option Addr) (n c : Nat) (w : World) (hA : An B rr w A n c done) (hk : x.k = 3) (hle : n + tots x.b ≤ 100000) (hb : PLc B rr w s x.A x.c x.b) :
    Calls Try.prog 25 #[.pointer (some ⟨rr, 0, none⟩), .agg #[.int .i64 (s.c : Nat), .string (ofL s.n), .string (ofL s.a), .string (ofL s.p)], nV x] w (PP (nodeI s x) done B rr w A) := by
  have k0' : (x.k == 0) = false := by rw [hk]; rfl
  have k1' : (x.k == 1) = false := by rw [hk]; rfl
  have k4' : (x.k == 4) = false := by rw [hk]; rfl
  have k2' : (x.k == 2) = false := by rw [hk]; rfl
  have k3' : (x.k == 3) = true := by rw [hk]; rfl
  rw [nodeI_eq, if_neg (by rw [hk]; decide), if_neg (by rw [hk]; decide), if_neg (by rw [hk]; decide), if_pos hk]
  have HP0 := Lib.hid (p30_start w s x)
  have HE0 := Lib.hid ((Ev.refl hA).bel (show Bel w (w3p w s x) from bel3_16 w _ _ _))
  have hrr := hA.blk.lt
  have HC := Lib.hid (iblock_c s s x done B rr A n c (w3p w s x) HE0.out.an hle (hb.mono (HE0.out.below hA)))
  clear hi hk hA hle hb
  go_enter Try.func25, Try.ntmps25
  go_wp2_with (go_at_call 45; ((with_reducible refine (HC.out).mono ?_); rintro e w2 ⟨t, a, k, A', n', c', es, rfl, hE, hQ⟩; have HP2 := Lib.hid (HP0.out.keep HE0.out.an hE.out.only); have HE2 := Lib.hid (HE0.out.then hE.out); clear hE; obtain ⟨k0, k1, k2, k3⟩ := cells4 HP2.out.b2; obtain ⟨y0, y1, y2, y3⟩ := frees4 HP2.out.b2))
  refine pp_set rfl rfl rfl rfl HP2.out.b2 (by omega) HE2.out (t := t) rfl ?_
  exact hQ.out
set_option maxHeartbeats 6400000 in
theorem pnode_define (s : HS) (hi : Inv s) (x : NT) (done : List Nat) (B rr : Nat) (A : Option Addr) (n c : Nat) (w : World) (hA : An B rr w A n c done) (hk : x.k = 6) (hle : n + tots x.b ≤ 100000) (hb : PLc B rr w (s0 0) x.A x.c x.b) :
    Calls Try.prog 25 #[.pointer (some ⟨rr, 0, none⟩), .agg #[.int .i64 (s.c : Nat), .string (ofL s.n), .string (ofL s.a), .string (ofL s.p)], nV x] w (PP (nodeI s x) done B rr w A) := by
  have k0' : (x.k == 0) = false := by rw [hk]; rfl
  have k1' : (x.k == 1) = false := by rw [hk]; rfl
  have k4' : (x.k == 4) = false := by rw [hk]; rfl
  have k2' : (x.k == 2) = false := by rw [hk]; rfl
  have k3' : (x.k == 3) = false := by rw [hk]; rfl
  have k6' : (x.k == 6) = true := by rw [hk]; rfl
  rw [nodeI_eq, if_neg (by rw [hk]; decide), if_neg (by rw [hk]; decide), if_neg (by rw [hk]; decide), if_neg (by rw [hk]; decide), if_neg (by rw [hk]; decide), if_pos hk]
  have HP0 := Lib.hid (p30_start w s x)
  have HE0 := Lib.hid ((Ev.refl hA).bel (show Bel w (w3p w s x) from bel3_16 w _ _ _))
  have hrr := hA.blk.lt
  have HC := Lib.hid (show Calls Try.prog 45 #[.pointer (some ⟨rr, 0, none⟩), .agg #[.int .i64 (s.c : Nat), .string (ofL s.n), .string (ofL s.a), .string (ofL s.p)], .agg #[.int .i64 0, .string ⟨#[]⟩, .string ⟨#[]⟩, .string ⟨#[]⟩], nV x] (w3p w s x) _ from iblock_c s (s0 0) x done B rr A n c (w3p w s x) HE0.out.an hle (hb.mono (HE0.out.below hA)))
  clear hi hk hA hle hb
  go_enter Try.func25, Try.ntmps25
  go_wp2_with (go_at_call 45; ((with_reducible refine (HC.out).mono ?_); rintro e w2 ⟨t, a, k, A', n', c', es, rfl, hE, hQ⟩; have HP2 := Lib.hid (HP0.out.keep HE0.out.an hE.out.only); have HE2 := Lib.hid (HE0.out.then hE.out); clear hE; obtain ⟨k0, k1, k2, k3⟩ := cells4 HP2.out.b2; obtain ⟨y0, y1, y2, y3⟩ := frees4 HP2.out.b2))
  refine pp_set rfl rfl rfl rfl HP2.out.b2 (by omega) HE2.out (t := t) rfl ?_
  exact hQ.out
set_option maxHeartbeats 6400000 in
theorem pnode_call (s : HS) (hi : Inv s) (x : NT) (done : List Nat) (B rr : Nat) (A : Option Addr) (n c : Nat) (w : World) (hA : An B rr w A n c done) (hk : x.k = 4) :
    Calls Try.prog 25 #[.pointer (some ⟨rr, 0, none⟩), .agg #[.int .i64 (s.c : Nat), .string (ofL s.n), .string (ofL s.a), .string (ofL s.p)], nV x] w (PP (nodeI s x) done B rr w A) := by
  have k0' : (x.k == 0) = false := by rw [hk]; rfl
  have k1' : (x.k == 1) = false := by rw [hk]; rfl
  have k4' : (x.k == 4) = true := by rw [hk]; rfl
  rw [nodeI_eq, if_neg (by rw [hk]; decide), if_neg (by rw [hk]; decide), if_neg (by rw [hk]; decide), if_neg (by rw [hk]; decide), if_pos hk]
  have HP0 := Lib.hid (p30_start w s x)
  have HE0 := Lib.hid ((Ev.refl hA).bel (show Bel w (w3p w s x) from bel3_16 w _ _ _))
  have hrr := hA.blk.lt
  have HC := Lib.hid (fun W => call_c s x W)
  clear hi hk hA
  cases hq : eqH s (s0 0) with
  | true =>
    rw [hq] at HC
    rw [if_pos rfl]
    have HC2 := Lib.hid (fun W => show Calls Try.prog 43 #[.agg #[.int .i64 (s.c : Nat), .string (ofL s.n), .string (ofL s.a), .string (ofL s.p)], nV x] W (PB (.agg #[.int .i64 (s.c : Nat), .string (ofL s.n), .string (ofL s.a), .string (ofL s.p)]) 0 0 W) by have h := HC.out W; rwa [if_pos rfl] at h)
    clear hq HC
    go_enter Try.func25, Try.ntmps25
    go_wp2_with (go_at_call 43; ((with_reducible refine (HC2.out _).mono ?_); rintro e w2 ⟨rfl, hb⟩; have HP2 := Lib.hid (HP0.out.later hb); have HE2 := Lib.hid (HE0.out.bel hb); clear hb; obtain ⟨k0, k1, k2, k3⟩ := cells4 HP2.out.b2; obtain ⟨y0, y1, y2, y3⟩ := frees4 HP2.out.b2))
    refine pp_set rfl rfl rfl rfl HP2.out.b2 (by omega) HE2.out (t := s) rfl ?_
    exact ⟨rfl, rfl, rfl, by rw [List.append_nil]⟩
  | false =>
    rw [hq] at HC
    rw [if_neg (by decide)]
    have HC2 := Lib.hid (fun W => show Calls Try.prog 43 #[.agg #[.int .i64 (s.c : Nat), .string (ofL s.n), .string (ofL s.a), .string (ofL s.p)], nV x] W (PB (.agg #[.int .i64 0, .string ⟨#[]⟩, .string ⟨#[]⟩, .string ⟨#[]⟩]) x.a 15 W) by have h := HC.out W; rwa [if_neg (by decide)] at h)
    clear hq HC
    go_enter Try.func25, Try.ntmps25
    go_wp2_with (go_at_call 43; ((with_reducible refine (HC2.out _).mono ?_); rintro e w2 ⟨rfl, hb⟩; have HP2 := Lib.hid (HP0.out.later hb); have HE2 := Lib.hid (HE0.out.bel hb); clear hb; obtain ⟨k0, k1, k2, k3⟩ := cells4 HP2.out.b2; obtain ⟨y0, y1, y2, y3⟩ := frees4 HP2.out.b2))
    refine pp_set rfl rfl rfl rfl HP2.out.b2 (by omega) HE2.out (t := s0 0) rfl ?_
    exact ⟨rfl, rfl, rfl, by decide⟩
theorem pp_blk {f : Func} {p u v g : Nat} {tmps : Array Value} {w W : World} {r : IR} {done : List Nat} {B rr : Nat} {A : Option Addr} {v0 v1 v2 v3 : Value} {t : HS} {a k : Int} {A' : Option Addr} {n' c' : Nat} {es : List Nat}
    (hf : f.results = #[.cell p 34, .tmp u, .tmp v]) (hp : tmps.getD p undef = .pointer (some ⟨g, 0, none⟩)) (hu : tmps.getD u undef = .int .i64 a) (hv : tmps.getD v undef = .int .i64 k)
    (hB : Blk W g 34 [v0, v1, v2, v3]) (hE : Ev B rr w A W A' n' c' es) (he : Value.agg #[v0, v1, v2, v3] = .agg #[.int .i64 (t.c : Nat), .string (ofL t.n), .string (ofL t.a), .string (ofL t.p)]) (hq : PQ r done t a k es) :
    bodyPost Try.prog f (PP r done B rr w A) .ret { tmps := tmps, defers := [] } W := by
  refine bodyPost_ret (results_row_tmp2_16 hf _ _ g _ _ (0, 0) _ hp hB Try.underlying34 rfl (by kernel_rfl)) rfl ?_
  exact ⟨t, a, k, A', n', c', es, by rw [← he, hu, hv], Lib.hid hE, Lib.hid hq⟩
set_option maxHeartbeats 6400000 in
theorem pnode_other (s : HS) (hi : Inv s) (x : NT) (done : List Nat) (B rr : Nat) (A : Option Addr) (n c : Nat) (w : World) (hA : An B rr w A n c done) (hk : x.k ≠ 0 ∧ x.k ≠ 1 ∧ x.k ≠ 2 ∧ x.k ≠ 3 ∧ x.k ≠ 4 ∧ x.k ≠ 6) :
    Calls Try.prog 25 #[.pointer (some ⟨rr, 0, none⟩), .agg #[.int .i64 (s.c : Nat), .string (ofL s.n), .string (ofL s.a), .string (ofL s.p)], nV x] w (PP (nodeI s x) done B rr w A) := by
  have k0' : (x.k == 0) = false := by have := hk; simp only [beq_eq_false_iff_ne]; omega
  have k1' : (x.k == 1) = false := by have := hk; simp only [beq_eq_false_iff_ne]; omega
  have k2' : (x.k == 2) = false := by have := hk; simp only [beq_eq_false_iff_ne]; omega
  have k3' : (x.k == 3) = false := by have := hk; simp only [beq_eq_false_iff_ne]; omega
  have k4' : (x.k == 4) = false := by have := hk; simp only [beq_eq_false_iff_ne]; omega
  have k6' : (x.k == 6) = false := by have := hk; simp only [beq_eq_false_iff_ne]; omega
  rw [nodeI_eq, if_neg (by omega), if_neg (by omega), if_neg (by omega), if_neg (by omega), if_neg (by omega), if_neg (by omega)]
  have HP0 := Lib.hid (p30_start w s x)
  have HE0 := Lib.hid ((Ev.refl hA).bel (show Bel w (w3p w s x) from bel3_16 w _ _ _))
  have hrr := hA.blk.lt
  clear HP0 HE0
  have HA := Lib.hid hA
  clear hi hk hA
  go_enter Try.func25, Try.ntmps25
  go_wp2_with fail
  refine pp_blk rfl rfl rfl rfl (blk_at2_16 w _ _ [.int .i64 (s.c : Nat), .string (ofL s.n), .string (ofL s.a), .string (ofL s.p)]) ((Ev.refl HA.out).bel (bel3_16 w _ _ _)) (t := s) rfl ?_
  exact ⟨rfl, rfl, rfl, by rw [List.append_nil]⟩
/-- The state of list's loop. -/
structure PlAt (B rr : Nat) (w wr : World) (S : HS) (A0 A : Option Addr) (n c : Nat) (es : List Nat) : Prop where
  b0 : Blk wr w.heap.size 34 (sC S)
  b1 : Blk wr (w.heap.size + 1) 34 [.int .i64 0, .string ⟨#[]⟩, .string ⟨#[]⟩, .string ⟨#[]⟩]
  ev : Ev B rr w A0 wr A n c es
theorem PlAt.later {B rr : Nat} {w wr w2 : World} {S : HS} {A0 A : Option Addr} {n c : Nat} {es : List Nat} (h : PlAt B rr w wr S A0 A n c es) (hb : Bel wr w2) : PlAt B rr w w2 S A0 A n c es := ⟨h.b0.belh hb, h.b1.belh hb, h.ev.bel hb⟩
theorem PlAt.call {B rr : Nat} {w wr w2 : World} {S : HS} {A0 A A' : Option Addr} {n c n' c' : Nat} {es es' : List Nat} (h : PlAt B rr w wr S A0 A n c es) (h2 : Ev B rr wr A w2 A' n' c' es') : PlAt B rr w w2 S A0 A' n' c' es' :=
  ⟨h.ev.an.keep h2.only h.b0 (by decide) (by decide), h.ev.an.keep h2.only h.b1 (by decide) (by decide), h.ev.then h2⟩
set_option maxHeartbeats 6400000 in
theorem plist_row (l : List NT) (ih : ∀ x ∈ l, PM x) (B rr : Nat) (w : World) (s : HS) (X : Option Addr) (c0 : Nat) (hi : Inv s) (hX : Row w (· < B) X c0 l) : PLc B rr w s X c0 l := by
  intro w' A n0 cc done hbw hA hle
  replace hX := hX.low hbw
  clear hbw w
  revert w'
  intro w hA hX
  obtain ⟨n, hn⟩ : ∃ n, n = l.length := ⟨_, rfl⟩
  have hn5 := hX.len
  rw [← hn] at hn5 ⊢
  have HX := Lib.hid hX
  have HI := Lib.hid ih
  have HN := Lib.hid hn
  have HT := Lib.hid hle
  have HSI := Lib.hid hi
  have HA := Lib.hid hA
  have hrr := hA.blk.lt
  have HST := Lib.hid (show PlAt B rr w ((w.alloc (.cells #[.int .i64 (s.c : Nat), .string (ofL s.n), .string (ofL s.a), .string (ofL s.p)] 34)).alloc (.cells #[.int .i64 0, .string ⟨#[]⟩, .string ⟨#[]⟩, .string ⟨#[]⟩] 34)) s A A n0 cc done from ⟨(Blk.new w 34 (sC s)).alloc _, blk_at1h w _ 34 _, (Ev.refl hA).bel ((Bel.alloc _ _).trans (Bel.alloc _ _))⟩)
  clear hX ih hn hle hi hA
  go_enter Try.func18, Try.ntmps18
  go_wp2_with fail
  go_loopw [16] (fun s16 wr => ∃ (i : Nat) (S : HS) (A' : Option Addr) (n' c' : Nat) (es : List Nat), i ≤ n ∧ s16 = .int .i64 i ∧ Hid (listI s (l.take i) = .ok S es) ∧ Hid (PlAt B rr w wr S A A' n' c' (done ++ es))) (fun s16 _ => n - (intOf s16).toNat)
  case atStart => exact ⟨0, s, A, n0, cc, [], Nat.zero_le _, rfl, Lib.hid (by rw [List.take_zero, listI_nil]), Lib.hid (by rw [List.append_nil]; exact HST.out)⟩
  case round =>
    obtain ⟨i, S, A', n', c', es, hin, rfl, HR, HL⟩ := hrel
    by_cases hlt : i < n
    · have hxt := List.getElem?_eq_getElem (l := l) (i := i) (by have := HN.out; omega)
      generalize l[i]'(by have := HN.out; omega) = x at hxt
      have hxm := List.mem_of_getElem? hxt
      obtain ⟨g0, o, hAA, hg, hc, hxin⟩ := HX.out.at_ hxt
      subst hAA
      have hst := tots_step hxt
      have hle1 : n' + x.tot ≤ 100000 := by
        have h1 := HT.out
        rw [← List.take_append_drop (i + 1) l, tots_append, hst] at h1
        have h2 := listI_le HR.out
        have h3 := HL.out.ev.an.len
        have h4 := HA.out.len
        rw [List.length_append] at h3
        omega
      have hS : Inv S := by have h := listI_good (l.take i) s HSI.out; rw [HR.out] at h; exact h
      have hbe := HL.out.ev.below HA.out
      have HL1 := Lib.hid (HL.out.later (Bel.alloc wr (.cells #[.int .i64 x.k, .int .i64 x.a, .string x.s, .string x.p, .bool x.h, .bool x.e, .slice x.A x.b.length x.c, .slice x.B x.l.length x.d] 47)))
      have HC := Lib.hid (HI.out x hxm B rr (wr.alloc (.cells #[.int .i64 x.k, .int .i64 x.a, .string x.s, .string x.p, .bool x.h, .bool x.e, .slice x.A x.b.length x.c, .slice x.B x.l.length x.d] 47)) A' n' c' (done ++ es) S hS (hxin.low (HL1.out.ev.below HA.out)) HL1.out.ev.an hle1)
      have HTK := Lib.hid (listI_take (s := s) hxt)
      obtain ⟨b0, b1, b2, b3, b4, b5, b6, b7⟩ := (hc.same (w' := wr) fun p => Below.cell (p := ⟨g0, p, none⟩) hbe hg).all
      have HQ := Lib.hid (cells4 HL1.out.b0)
      clear hxt hxm hg hc hxin hst hle1 hS hbe
      obtain ⟨d0, d1, d2, d3⟩ := HQ.out
      cases hr : nodeI S x with
      | no a' k' =>
        rw [hr] at HC
        have he := nodeI_err hr
        have hk0 : (k' : Int) ≠ 0 := by omega
        have hk1 : ((k' : Int) != 0) = true := bne_iff_ne.2 hk0
        have HE := Lib.hid (show k' ≠ 0 by omega)
        have HFIN := Lib.hid (show listI s l = .no a' k' from listI_stop (i := i + 1) (by rw [HTK.out, HR.out, IR.next_ok, hr, IR.next_no]))
        clear hr he
        go_wp2_with (go_at_call 25; ((with_reducible refine (HC.out).mono ?_); rintro e w2 ⟨t, a, k, A2, n2, c2, es2, rfl, hE, hQ⟩; obtain ⟨ht, rfl, rfl, hne⟩ := hQ.out; have HL2 := Lib.hid ((HL1.out.call hE.out).later (Bel.alloc w2 (.cells #[.int .i64 (t.c : Nat), .string (ofL t.n), .string (ofL t.a), .string (ofL t.p)] 34))); clear hE hQ hne ht; obtain ⟨k0, k1, k2, k3⟩ := cells4 HL2.out.b1; obtain ⟨y0, y1, y2, y3⟩ := frees4 HL2.out.b1))
        rw [HFIN.out]
        refine pp_set rfl rfl rfl rfl HL2.out.b1 (by omega) HL2.out.ev (t := s0 0) rfl ?_
        exact ⟨rfl, rfl, rfl, HE.out⟩
      | ok S2 e2 =>
        rw [hr] at HC
        have HTN := Lib.hid (show listI s (l.take (i + 1)) = .ok S2 (es ++ e2) by rw [HTK.out, HR.out, IR.next_ok, hr, IR.next_ok])
        clear hr
        go_wp2_with (go_at_call 25; ((with_reducible refine (HC.out).mono ?_); rintro e w2 ⟨t, a, k, A2, n2, c2, es2, rfl, hE, hQ⟩; obtain ⟨rfl, rfl, rfl, hes⟩ := hQ.out; rw [List.append_assoc] at hes; subst hes; have HL2 := Lib.hid ((HL1.out.call hE.out).later (Bel.alloc w2 (.cells #[.int .i64 (t.c : Nat), .string (ofL t.n), .string (ofL t.a), .string (ofL t.p)] 34))); clear hE hQ; obtain ⟨k0, k1, k2, k3⟩ := cells4 HL2.out.b0; obtain ⟨y0, y1, y2, y3⟩ := frees4 HL2.out.b0))
        go_roundw
        case rel =>
          have hO := only4p (w2.alloc (.cells #[.int .i64 (t.c : Nat), .string (ofL t.n), .string (ofL t.a), .string (ofL t.p)] 34)) w.heap.size (.int .i64 (t.c : Nat)) (.string (ofL t.n)) (.string (ofL t.a)) (.string (ofL t.p))
          have hK := (((HL2.out.b0.set_ 0 (.int .i64 (t.c : Nat))).set_ 1 (.string (ofL t.n))).set_ 2 (.string (ofL t.a))).set_ 3 (.string (ofL t.p))
          simp only [List.set_cons_succ, List.set_cons_zero] at hK
          exact ⟨i + 1, t, A2, n2, c2, es ++ e2, by omega, by go_num, HTN, Lib.hid ⟨hK, HL2.out.b1.only hO (by simp), HL2.out.ev.own hO (Nat.le_refl _) HL2.out.b0 (by decide) (by decide)⟩⟩
        case measure => simp [intOf]; omega
    · obtain rfl : i = n := by omega
      have HFIN := Lib.hid (show listI s l = .ok S es by have h := HR.out; rwa [HN.out, List.take_length] at h)
      obtain ⟨d0, d1, d2, d3⟩ := cells4 HL.out.b0
      obtain ⟨k0, k1, k2, k3⟩ := cells4 HL.out.b1
      obtain ⟨y0, y1, y2, y3⟩ := frees4 HL.out.b1
      go_wp2_with fail
      rw [HFIN.out]
      refine pp_set rfl rfl rfl rfl HL.out.b1 (by omega) HL.out.ev (t := S) rfl ?_
      exact ⟨rfl, rfl, rfl, rfl⟩
theorem pnode_all (x : NT) : PM x := by
  refine NT.ind (M := PM) (fun t h1 h2 => ?_) x
  intro B rr w A n c done s hs ht hA hz
  rw [tot_eq] at hz
  have hb : ∀ s, Inv s → PLc B rr w s t.A t.c t.b := fun s hs => plist_row t.b h1 B rr w s _ _ hs ht.body
  have hl : ∀ s, Inv s → PLc B rr w s t.B t.d t.l := fun s hs => plist_row t.l h2 B rr w s _ _ hs ht.els
  by_cases h0 : t.k = 0
  · exact pnode_text s hs t done B rr A n c w hA h0 ht.siB
  by_cases h1 : t.k = 1
  · exact pnode_print s hs t done B rr A n c w hA h1 (by omega)
  by_cases h2 : t.k = 2
  · exact pnode_if s hs t done B rr A n c w hA h2 (by omega) (hb s hs) (hl s hs)
  by_cases h3 : t.k = 3
  · exact pnode_range s hs t done B rr A n c w hA h3 (by omega) (hb s hs)
  by_cases h4 : t.k = 4
  · exact pnode_call s hs t done B rr A n c w hA h4
  by_cases h6 : t.k = 6
  · exact pnode_define s hs t done B rr A n c w hA h6 (by omega) (hb (s0 0) Inv.init)
  · exact pnode_other s hs t done B rr A n c w hA ⟨h0, h1, h2, h3, h4, h6⟩
theorem plist_c {l : List NT} {X : Option Addr} {c0 : Nat} {B : Nat} {w : World} (hX : Row w (· < B) X c0 l) (rr : Nat) (s : HS) (hs : Inv s) : PLc B rr w s X c0 l := plist_row l (fun x _ => pnode_all x) B rr w s X c0 hs hX
end Go.Proofs.Yteclclidibmajaa
