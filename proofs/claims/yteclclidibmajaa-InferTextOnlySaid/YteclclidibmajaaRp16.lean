/-
  The reference of layer 16: node, kind by kind.
  The reference of layer 16: node for a Range.
  The reference of layer 16: node for a Define.
  The reference of layer 16: node for an If.
-/
import Derived.Test.YteclclidibmajaaRs16
import Derived.Test.YteclclidibmajaaHr15
namespace Go.Proofs.Yteclclidibmajaa
open Go.RowKit Go.BigFrame NT
set_option linter.unusedVariables false
set_option linter.unusedSimpArgs false
set_option maxRecDepth 100000

theorem NT.In.si {w : World} {Q : Nat → Prop} {t : NT} (h : t.In w Q) : t.s.size ≤ 140737488351232 := by cases h; assumption
theorem bel3 {w w1 : World} (h : Bel w w1) (a b c : Obj) : Bel w (((w1.alloc a).alloc b).alloc c) := ((h.trans (Bel.alloc _ _)).trans (Bel.alloc _ _)).trans (Bel.alloc _ _)
theorem blk_st16 {w : World} {g : Nat} {T : TypeId} {a0 a1 a2 a3 a4 a5 a6 : Value} (v0 v1 v2 v3 : Value) (h : Blk w g T [a0, a1, a2, a3, a4, a5, a6]) : Blk ((((w.setCell ⟨g, 0, none⟩ v0).setCell ⟨g, 1, none⟩ v1).setCell ⟨g, 2, none⟩ v2).setCell ⟨g, 3, none⟩ v3) g T [v0, v1, v2, v3, a4, a5, a6] := by
  have h1 := (((h.set_ 0 v0).set_ 1 v1).set_ 2 v2).set_ 3 v3
  simpa only [List.set_cons_succ, List.set_cons_zero] using h1
theorem only4_16 (W : World) (g : Nat) (a0 a1 a2 a3 : Value) : Only [g] W ((((W.setCell ⟨g, 0, none⟩ a0).setCell ⟨g, 1, none⟩ a1).setCell ⟨g, 2, none⟩ a2).setCell ⟨g, 3, none⟩ a3) :=
  (((((Only.refl [g] W).setCell (.inl (by simp)) _).setCell (.inl (by simp)) _).setCell (.inl (by simp)) _).setCell (.inl (by simp)) _)
/-- The four blocks that node starts with: the state, the node, the result, r. -/
structure Nd0 (w w1 : World) (s : HS) (x : NT) (S4 : List Value) (R4 : List Value) : Prop where
  b0 : Blk w1 w.heap.size 38 (sC s)
  b1 : Blk w1 (w.heap.size + 1) 47 x.cs
  b2 : Blk w1 (w.heap.size + 1 + 1) 40 S4
  b3 : Blk w1 (w.heap.size + 1 + 1 + 1) 40 R4
  bel : Bel w w1
abbrev z7 : List Value := [.int .i64 0, .string ⟨#[]⟩, .string ⟨#[]⟩, .string ⟨#[]⟩, .slice none 0 0, .int .i64 0, .int .i64 0]
abbrev w4 (w : World) (s : HS) (x : NT) : World := (((w.alloc (.cells #[.int .i64 (s.c : Nat), .string (ofL s.n), .string (ofL s.a), .string (ofL s.p)] 38)).alloc (.cells #[.int .i64 x.k, .int .i64 x.a, .string x.s, .string x.p, .bool x.h, .bool x.e, .slice x.A x.b.length x.c, .slice x.B x.l.length x.d] 47)).alloc (.cells #[.int .i64 0, .string ⟨#[]⟩, .string ⟨#[]⟩, .string ⟨#[]⟩, .slice none 0 0, .int .i64 0, .int .i64 0] 40)).alloc (.cells #[.int .i64 (s.c : Nat), .string (ofL s.n), .string (ofL s.a), .string (ofL s.p), .slice none 0 0, .int .i64 x.a, .int .i64 0] 40)
theorem nd_start (w : World) (s : HS) (x : NT) : Nd0 w (w4 w s x) s x z7 (rsC s none 0 0 x.a 0) := by
  have e1 : (w.alloc (.cells #[.int .i64 (s.c : Nat), .string (ofL s.n), .string (ofL s.a), .string (ofL s.p)] 38)).heap.size = w.heap.size + 1 := by simp
  refine ⟨(((Blk.new w 38 (sC s)).alloc _).alloc _).alloc _, ?_, ?_, ?_, (bel3 (Bel.alloc _ _) _ _ _)⟩
  · exact ((blk_at1h w _ 47 x.cs).alloc _).alloc _
  · have := (blk_at1h (w.alloc (.cells (sC s).toArray 38)) (.cells x.cs.toArray 47) 40 z7).alloc (.cells (rsC s none 0 0 x.a 0).toArray 40)
    rw [show (w.alloc (.cells (sC s).toArray 38)).heap.size = w.heap.size + 1 by simp] at this
    exact this
  · have := blk_at1h ((w.alloc (.cells (sC s).toArray 38)).alloc (.cells x.cs.toArray 47)) (.cells z7.toArray 40) 40 (rsC s none 0 0 x.a 0)
    rw [show ((w.alloc (.cells (sC s).toArray 38)).alloc (.cells x.cs.toArray 47)).heap.size = w.heap.size + 1 + 1 by simp] at this
    exact this
theorem Nd0.later {w w1 w2 : World} {s : HS} {x : NT} {S R : List Value} (h : Nd0 w w1 s x S R) (hb : Bel w1 w2) : Nd0 w w2 s x S R := ⟨h.b0.belh hb, h.b1.belh hb, h.b2.belh hb, h.b3.belh hb, h.bel.trans hb⟩
theorem nd_end {f : Func} {tmps : Array Value} {w w2 W : World} {s : HS} {x : NT} {R : List Value} {r : IR} {v0 v1 v2 v3 v4 v5 v6 : Value} (hf : f.results = #[.cell 4 40]) (hp : tmps.getD 4 undef = .pointer (some ⟨w.heap.size + 1 + 1, 0, none⟩))
    (hN : Nd0 w w2 s x z7 R) (hO : Only [w.heap.size + 1 + 1 + 1] w2 W)
    (he : ∀ W2, Only [w.heap.size + 1 + 1, w.heap.size + 1 + 1 + 1] w2 W2 → ∃ t A n c a k, Value.agg #[v0, v1, v2, v3, v4, v5, v6] = rsV t A n c a k ∧ Hid (RsQ r x.a w W2 t A n c a k)) :
    bodyPost Try.prog f (RnP r x.a w) .ret { tmps := tmps, defers := [] } (((((((W.setCell ⟨w.heap.size + 1 + 1, 0, none⟩ v0).setCell ⟨w.heap.size + 1 + 1, 1, none⟩ v1).setCell ⟨w.heap.size + 1 + 1, 2, none⟩ v2).setCell ⟨w.heap.size + 1 + 1, 3, none⟩ v3).setCell ⟨w.heap.size + 1 + 1, 4, none⟩ v4).setCell ⟨w.heap.size + 1 + 1, 5, none⟩ v5).setCell ⟨w.heap.size + 1 + 1, 6, none⟩ v6) := by
  refine rs_set (k := 4) (g := w.heap.size + 1 + 1) hf hp (hN.b2.only hO (by simp)) (bel_on1 hN.bel hO (by omega)) (by omega) (fun w3 h3 => he w3 ?_)
  exact (Only.shed (S := [w.heap.size + 1 + 1, w.heap.size + 1 + 1 + 1]) hO (by simp)).join h3 (by simp)
theorem nd_fold {f : Func} {tmps : Array Value} {w : World} {x0 : Int} {r : IR} {a b d : Obj} {v0 v1 v2 v3 v4 v5 v6 : Value} (hf : f.results = #[.cell 4 40]) (hp : tmps.getD 4 undef = .pointer (some ⟨w.heap.size + 1 + 1, 0, none⟩))
    (he : ∀ W2, ∃ t A n c a k, Value.agg #[v0, v1, v2, v3, v4, v5, v6] = rsV t A n c a k ∧ Hid (RsQ r x0 w W2 t A n c a k)) :
    bodyPost Try.prog f (RnP r x0 w) .ret { tmps := tmps, defers := [] } ((((w.alloc a).alloc b).alloc (.cells #[v0, v1, v2, v3, v4, v5, v6] 40)).alloc d) := by
  have h := (blk_at1h (w.alloc a) b 40 [v0, v1, v2, v3, v4, v5, v6]).alloc d
  rw [show (w.alloc a).heap.size = w.heap.size + 1 by simp] at h
  refine bodyPost_ret (results_cell_row hf _ _ (w.heap.size + 1 + 1) _ _ (0, 0) _ hp h Try.underlying40 rfl (by kernel_rfl)) rfl ?_
  obtain ⟨t, A, n, c, a, k, e1, e2⟩ := he _
  exact ⟨bel3 (Bel.alloc _ _) _ _ _, t, A, n, c, a, k, by rw [← e1], e2⟩
theorem Nd0.set {w w1 : World} {s : HS} {x : NT} {S R : List Value} (h : Nd0 w w1 s x S R) (j : Nat) (v : Value) : Nd0 w (w1.setCell ⟨w.heap.size + 1 + 1 + 1, j, none⟩ v) s x S (R.set j v) :=
  have hO : Only [w.heap.size + 1 + 1 + 1] w1 (w1.setCell ⟨w.heap.size + 1 + 1 + 1, j, none⟩ v) := (Only.refl _ w1).setCell (.inl (by simp)) _
  ⟨h.b0.only hO (by simp; omega), h.b1.only hO (by simp), h.b2.only hO (by simp), h.b3.set_ j v, bel_on1 h.bel hO (by omega)⟩
theorem cells8_16 {w : World} {g : Nat} {T : TypeId} {a0 a1 a2 a3 a4 a5 a6 a7 : Value} (h : Blk w g T [a0, a1, a2, a3, a4, a5, a6, a7]) :
    w.cell? ⟨g, 0, none⟩ = some a0 ∧ w.cell? ⟨g, 1, none⟩ = some a1 ∧ w.cell? ⟨g, 2, none⟩ = some a2 ∧ w.cell? ⟨g, 3, none⟩ = some a3 ∧ w.cell? ⟨g, 4, none⟩ = some a4 ∧ w.cell? ⟨g, 5, none⟩ = some a5 ∧ w.cell? ⟨g, 6, none⟩ = some a6 ∧ w.cell? ⟨g, 7, none⟩ = some a7 := ⟨h.cell 0, h.cell 1, h.cell 2, h.cell 3, h.cell 4, h.cell 5, h.cell 6, h.cell 7⟩
set_option maxRecDepth 100000 in
set_option maxHeartbeats 6400000 in
theorem rnode_text (s : HS) (hi : Inv s) (x : NT) (w : World) (hx : x.In w (Lt w)) (hk : x.k = 0) (hrun : ∀ W, Calls Try.prog 15 #[s.val, .string x.s] W (SvP (runS s (toL x.s)) W)) : Calls Try.prog 21 #[.agg #[.int .i64 (s.c : Nat), .string (ofL s.n), .string (ofL s.a), .string (ofL s.p)], nV x] w (RnP (nodeI s x) x.a w) := by
  have k0 : (x.k == 0) = true := by rw [hk]; rfl
  rw [nodeI_eq, if_pos hk]
  obtain ⟨T, hT⟩ : ∃ T, T = runS s x.s.data.toList := ⟨_, rfl⟩
  rw [← hT]
  have HRU := Lib.hid (fun W => show Calls Try.prog 15 #[.agg #[.int .i64 (s.c : Nat), .string (ofL s.n), .string (ofL s.a), .string (ofL s.p)], .string x.s] W (SvV (.agg #[.int .i64 (T.c : Nat), .string (ofL T.n), .string (ofL T.a), .string (ofL T.p)]) W) by rw [hT]; exact hrun W)
  have HN := Lib.hid (nd_start w s x)
  clear hrun hT hi hx hk
  go_enter Try.func21, Try.ntmps21
  go_wp2_with (go_at_call 15; ((with_reducible refine (HRU.out _).mono ?_); rintro e w2 ⟨rfl, hb⟩; have HN2 := Lib.hid (HN.out.later hb); clear hb; obtain ⟨y0, y1, y2, y3, y4, y5, y6⟩ := frees7 HN2.out.b3; obtain ⟨u0, u1, u2, u3, u4, u5, u6⟩ := frees7 HN2.out.b2; obtain ⟨c0, c1, c2, c3, c4, c5, c6⟩ := cells7 HN2.out.b3; obtain ⟨d0, d1, d2, d3, d4, d5, d6⟩ := cells7 HN2.out.b2))
  (with_reducible apply nd_end)
  case hf => rfl
  case hp => rfl
  case hN => exact HN2.out
  case hO => (repeat with_reducible refine Only.setCell ?_ (.inl (by simp)) _); exact Only.refl _ _
  case he => intro W2 hO2; exact ⟨T, none, 0, 0, x.a, 0, rfl, Lib.hid ⟨rfl, rfl, rfl, Es.nil _ _⟩⟩
set_option maxRecDepth 100000 in
set_option maxHeartbeats 6400000 in
theorem rnode_print (s : HS) (hi : Inv s) (x : NT) (w : World) (hx : x.In w (Lt w)) (hk : x.k = 1) : Calls Try.prog 21 #[.agg #[.int .i64 (s.c : Nat), .string (ofL s.n), .string (ofL s.a), .string (ofL s.p)], nV x] w (RnP (nodeI s x) x.a w) := by
  have k0 : (x.k == 0) = false := by rw [hk]; rfl
  have k1 : (x.k == 1) = true := by rw [hk]; rfl
  rw [nodeI_eq, if_neg (by rw [hk]; decide), if_pos hk]
  have HES := Lib.hid (fun W => show Calls Try.prog 33 #[.agg #[.int .i64 (s.c : Nat), .string (ofL s.n), .string (ofL s.a), .string (ofL s.p)]] W _ from resc_c s W)
  generalize escS s = q at HES ⊢
  obtain ⟨ke, be⟩ := q
  have HN := Lib.hid (nd_start w s x)
  clear hi hx hk
  go_enter Try.func21, Try.ntmps21
  cases be
  case' false =>
    go_wp2_with (go_at_call 33; ((with_reducible refine (HES.out _).mono ?_); rintro e w2 ⟨rfl, hb⟩; have HN1 := Lib.hid (HN.out.later hb); have hN2 := (HN1.out.set 6 (.int .i64 15)).later (Bel.alloc _ (.cells #[.int .i64 (ke : Nat)] 3)); simp only [List.set_cons_succ, List.set_cons_zero] at hN2; have HN2 := Lib.hid hN2; clear hb hN2; obtain ⟨y0, y1, y2, y3, y4, y5, y6⟩ := frees7 HN1.out.b3; obtain ⟨u0, u1, u2, u3, u4, u5, u6⟩ := frees7 HN1.out.b2; obtain ⟨c0, c1, c2, c3, c4, c5, c6⟩ := cells7 HN1.out.b3; obtain ⟨d0, d1, d2, d3, d4, d5, d6⟩ := cells7 HN1.out.b2; obtain ⟨z0, z1, z2, z3, z4, z5, z6⟩ := frees7 HN2.out.b3; obtain ⟨q0, q1, q2, q3, q4, q5, q6⟩ := frees7 HN2.out.b2; obtain ⟨e0, e1, e2, e3, e4, e5, e6⟩ := cells7 HN2.out.b3; obtain ⟨f0, f1, f2, f3, f4, f5, f6⟩ := cells7 HN2.out.b2))
    (with_reducible apply nd_end)
    case hf => rfl
    case hp => rfl
    case hN => exact HN2.out
    case hO => (repeat with_reducible refine Only.setCell ?_ (.inl (by simp)) _); exact Only.refl _ _
    case he => intro W2 hO2; exact ⟨s, _, _, _, _, _, rfl, Lib.hid ⟨rfl, rfl, by decide⟩⟩
  case' true =>
    go_wp2_with (go_at_call 33; ((with_reducible refine (HES.out _).mono ?_); rintro e w2 ⟨rfl, hb⟩; have HN1 := Lib.hid (HN.out.later hb); have HN2 := Lib.hid (HN1.out.later (Bel.alloc w2 (.cells #[.int .i64 (ke : Nat)] 3))); have HE := Lib.hid (show Es w (w2.alloc (.cells #[.int .i64 (ke : Nat)] 3)) (some ⟨w2.heap.size, 0, none⟩) 1 1 [ke] from ⟨rfl, RowAt.of_blk (Blk.new w2 3 [.int .i64 (ke : Nat)]) (by show 1 ≤ maxLen; decide), by rw [rowT_some]; simp; exact HN1.out.bel.size⟩); clear hb; obtain ⟨y0, y1, y2, y3, y4, y5, y6⟩ := frees7 HN2.out.b3; obtain ⟨u0, u1, u2, u3, u4, u5, u6⟩ := frees7 HN2.out.b2; obtain ⟨c0, c1, c2, c3, c4, c5, c6⟩ := cells7 HN2.out.b3; obtain ⟨d0, d1, d2, d3, d4, d5, d6⟩ := cells7 HN2.out.b2))
    (with_reducible apply nd_end)
    case hf => rfl
    case hp => rfl
    case hN => exact HN2.out
    case hO => (repeat with_reducible refine Only.setCell ?_ (.inl (by simp)) _); exact Only.refl _ _
    case he => intro W2 hO2; exact ⟨s, _, _, _, _, _, rfl, Lib.hid ⟨rfl, rfl, rfl, HE.out.only hO2 (fun k hk hm => by rw [rowT_some, List.mem_singleton] at hk; have hk : k = w2.heap.size := hk; have h1 := HN1.out.b2.lt; have h2 := HN1.out.b3.lt; simp at hm; subst hk; omega)⟩⟩

set_option maxRecDepth 100000 in
set_option maxHeartbeats 6400000 in
theorem rnode_call (s : HS) (hi : Inv s) (x : NT) (w : World) (hx : x.In w (Lt w)) (hk : x.k = 4) : Calls Try.prog 21 #[.agg #[.int .i64 (s.c : Nat), .string (ofL s.n), .string (ofL s.a), .string (ofL s.p)], nV x] w (RnP (nodeI s x) x.a w) := by
  have k0 : (x.k == 0) = false := by rw [hk]; rfl
  have k1 : (x.k == 1) = false := by rw [hk]; rfl
  have k2 : (x.k == 2) = false := by rw [hk]; rfl
  have k3 : (x.k == 3) = false := by rw [hk]; rfl
  have k4 : (x.k == 4) = true := by rw [hk]; rfl
  rw [nodeI_eq, if_neg (by rw [hk]; decide), if_neg (by rw [hk]; decide), if_neg (by rw [hk]; decide), if_neg (by rw [hk]; decide), if_pos hk]
  have HN := Lib.hid (nd_start w s x)
  have hgr := rst_guard16
  clear hi hx hk
  cases hq : eqH s (s0 0) with
  | true =>
    have hcmp : ∀ W, (binOp .neq 38 (.agg #[.int .i64 (s.c : Nat), .string (ofL s.n), .string (ofL s.a), .string (ofL s.p)]) (.agg #[.int .i64 0, .string ⟨#[]⟩, .string ⟨#[]⟩, .string ⟨#[]⟩])).run Try.prog W = .ok (.bool false) W := fun W => by have h := rst_neq s (s0 0) W; rw [hq] at h; exact h
    clear hq
    rw [if_pos rfl]
    go_enter Try.func21, Try.ntmps21
    go_wp2_with fail
    (with_reducible apply nd_fold)
    case hf => rfl
    case hp => rfl
    case he => intro W2; exact ⟨s, none, 0, 0, _, _, rfl, Lib.hid ⟨rfl, rfl, rfl, Es.nil _ _⟩⟩
  | false =>
    have hcmp : ∀ W, (binOp .neq 38 (.agg #[.int .i64 (s.c : Nat), .string (ofL s.n), .string (ofL s.a), .string (ofL s.p)]) (.agg #[.int .i64 0, .string ⟨#[]⟩, .string ⟨#[]⟩, .string ⟨#[]⟩])).run Try.prog W = .ok (.bool true) W := fun W => by have h := rst_neq s (s0 0) W; rw [hq] at h; exact h
    clear hq
    rw [if_neg (by decide)]
    go_enter Try.func21, Try.ntmps21
    go_wp2_with fail
    (with_reducible apply nd_fold)
    case hf => rfl
    case hp => rfl
    case he => intro W2; exact ⟨s, none, 0, 0, _, _, rfl, Lib.hid ⟨rfl, rfl, by decide⟩⟩
set_option maxRecDepth 100000 in
set_option maxHeartbeats 6400000 in
theorem rnode_other (s : HS) (hi : Inv s) (x : NT) (w : World) (hx : x.In w (Lt w)) (hk : x.k ≠ 0 ∧ x.k ≠ 1 ∧ x.k ≠ 2 ∧ x.k ≠ 3 ∧ x.k ≠ 4 ∧ x.k ≠ 6) : Calls Try.prog 21 #[.agg #[.int .i64 (s.c : Nat), .string (ofL s.n), .string (ofL s.a), .string (ofL s.p)], nV x] w (RnP (nodeI s x) x.a w) := by
  have k0 : (x.k == 0) = false := by have := hk; simp only [beq_eq_false_iff_ne]; omega
  have k1 : (x.k == 1) = false := by have := hk; simp only [beq_eq_false_iff_ne]; omega
  have k2 : (x.k == 2) = false := by have := hk; simp only [beq_eq_false_iff_ne]; omega
  have k3 : (x.k == 3) = false := by have := hk; simp only [beq_eq_false_iff_ne]; omega
  have k4 : (x.k == 4) = false := by have := hk; simp only [beq_eq_false_iff_ne]; omega
  have k6 : (x.k == 6) = false := by have := hk; simp only [beq_eq_false_iff_ne]; omega
  rw [nodeI_eq, if_neg (by omega), if_neg (by omega), if_neg (by omega), if_neg (by omega), if_neg (by omega), if_neg (by omega)]
  have HN := Lib.hid (nd_start w s x)
  clear hi hx hk
  go_enter Try.func21, Try.ntmps21
  go_wp2_with fail
  (with_reducible apply nd_fold)
  case hf => rfl
  case hp => rfl
  case he => intro W2; exact ⟨s, none, 0, 0, _, _, rfl, Lib.hid ⟨rfl, rfl, rfl, Es.nil _ _⟩⟩
end Go.Proofs.Yteclclidibmajaa

namespace Go.Proofs.Yteclclidibmajaa
open Go.RowKit Go.BigFrame NT
set_option linter.unusedVariables false
set_option linter.unusedSimpArgs false
set_option maxRecDepth 100000

set_option maxRecDepth 100000 in
set_option maxHeartbeats 6400000 in
theorem rnode_range (s : HS) (hi : Inv s) (x : NT) (w : World) (hx : x.In w (Lt w)) (hk : x.k = 3) (hbody : ∀ W, Bel w W → Calls Try.prog 14 #[.agg #[.int .i64 (s.c : Nat), .string (ofL s.n), .string (ofL s.a), .string (ofL s.p)], .slice x.A x.b.length x.c] W (RnP (listI s x.b) 0 W)) : Calls Try.prog 21 #[.agg #[.int .i64 (s.c : Nat), .string (ofL s.n), .string (ofL s.a), .string (ofL s.p)], nV x] w (RnP (nodeI s x) x.a w) := by
  have k0 : (x.k == 0) = false := by rw [hk]; rfl
  have k1 : (x.k == 1) = false := by rw [hk]; rfl
  have k2 : (x.k == 2) = false := by rw [hk]; rfl
  have k3 : (x.k == 3) = true := by rw [hk]; rfl
  rw [nodeI_eq, if_neg (by rw [hk]; decide), if_neg (by rw [hk]; decide), if_neg (by rw [hk]; decide), if_pos hk]
  have HN := Lib.hid (nd_start w s x)
  cases hr : listI s x.b with
  | no a1 e1 =>
    rw [hr] at hbody
    have HL := Lib.hid hbody
    have he := listI_err hr
    have hk0 : (e1 : Int) ≠ 0 := by omega
    have hk1 : ((e1 : Int) != 0) = true := bne_iff_ne.2 hk0
    have HE := Lib.hid he
    clear hbody hr hi hx hk he
    rw [IR.next_no]
    go_enter Try.func21, Try.ntmps21
    go_wp2_with (go_at_call 14; ((with_reducible refine (HL.out _ HN.out.bel).mono ?_); rintro e w2 ⟨hb, t1, A1, n1, c1, a1', e1', rfl, hq⟩; obtain ⟨rfl, rfl, hne⟩ := hq.out; have HN2 := Lib.hid ((HN.out.later hb).later (Bel.alloc w2 (.cells #[.int .i64 (t1.c : Nat), .string (ofL t1.n), .string (ofL t1.a), .string (ofL t1.p), .slice A1 n1 c1, .int .i64 a1', .int .i64 e1] 40))); clear hb hq hne; obtain ⟨y0, y1, y2, y3, y4, y5, y6⟩ := frees7 HN2.out.b3; obtain ⟨u0, u1, u2, u3, u4, u5, u6⟩ := frees7 HN2.out.b2; obtain ⟨c0, c1, c2, c3, c4, c5, c6⟩ := cells7 HN2.out.b3; obtain ⟨d0, d1, d2, d3, d4, d5, d6⟩ := cells7 HN2.out.b2))
    (with_reducible apply nd_end)
    case hf => rfl
    case hp => rfl
    case hN => exact HN2.out
    case hO => (repeat with_reducible refine Only.setCell ?_ (.inl (by simp)) _); exact Only.refl _ _
    case he => intro W2 hO2; exact ⟨t1, _, _, _, _, _, rfl, Lib.hid ⟨rfl, rfl, by have := HE.out; omega⟩⟩
  | ok s1 es1 =>
    rw [hr] at hbody
    have HL := Lib.hid hbody
    rw [IR.next_ok]
    clear hbody hr hi hx hk
    have hgr := rst_guard16
    cases hq : eqH s1 s with
    | true =>
      have hcmp : ∀ W, (binOp .neq 38 (.agg #[.int .i64 (s1.c : Nat), .string (ofL s1.n), .string (ofL s1.a), .string (ofL s1.p)]) (.agg #[.int .i64 (s.c : Nat), .string (ofL s.n), .string (ofL s.a), .string (ofL s.p)])).run Try.prog W = .ok (.bool false) W := fun W => by have h := rst_neq s1 s W; rw [hq] at h; exact h
      clear hq
      rw [if_pos rfl]
      go_enter Try.func21, Try.ntmps21
      go_wp2_with (go_at_call 14; ((with_reducible refine (HL.out _ HN.out.bel).mono ?_); rintro e w2 ⟨hb, t1, A1, n1, c1, a1', e1', rfl, hq1⟩; obtain ⟨rfl, rfl, rfl, hes⟩ := hq1.out; have HE := Lib.hid ((hes.since (HN.out.bel.size)).later (Bel.alloc w2 (.cells #[.int .i64 (t1.c : Nat), .string (ofL t1.n), .string (ofL t1.a), .string (ofL t1.p), .slice A1 n1 c1, .int .i64 0, .int .i64 0] 40))); have HN2 := Lib.hid ((HN.out.later hb).later (Bel.alloc w2 (.cells #[.int .i64 (t1.c : Nat), .string (ofL t1.n), .string (ofL t1.a), .string (ofL t1.p), .slice A1 n1 c1, .int .i64 0, .int .i64 0] 40))); clear hb hq1 hes; obtain ⟨y0, y1, y2, y3, y4, y5, y6⟩ := frees7 HN2.out.b3; obtain ⟨u0, u1, u2, u3, u4, u5, u6⟩ := frees7 HN2.out.b2; obtain ⟨c0, c1, c2, c3, c4, c5, c6⟩ := cells7 HN2.out.b3; obtain ⟨d0, d1, d2, d3, d4, d5, d6⟩ := cells7 HN2.out.b2; obtain ⟨s0', s1', s2', s3'⟩ := cells4 HN2.out.b0))
      (with_reducible apply nd_end)
      case hf => rfl
      case hp => rfl
      case hN => exact HN2.out
      case hO => (repeat with_reducible refine Only.setCell ?_ (.inl (by simp)) _); exact Only.refl _ _
      case he => intro W2 hO2; exact ⟨s, _, _, _, _, _, rfl, Lib.hid ⟨rfl, rfl, rfl, HE.out.only hO2 (fun k hk hm => by have h1 := HE.out.blk HN2.out.b2 (by decide); have h2 := HE.out.blk HN2.out.b3 (by decide); simp at hm; rcases hm with rfl | rfl; exact h1 hk; exact h2 hk)⟩⟩
    | false =>
      have hcmp : ∀ W, (binOp .neq 38 (.agg #[.int .i64 (s1.c : Nat), .string (ofL s1.n), .string (ofL s1.a), .string (ofL s1.p)]) (.agg #[.int .i64 (s.c : Nat), .string (ofL s.n), .string (ofL s.a), .string (ofL s.p)])).run Try.prog W = .ok (.bool true) W := fun W => by have h := rst_neq s1 s W; rw [hq] at h; exact h
      clear hq
      rw [if_neg (by decide)]
      go_enter Try.func21, Try.ntmps21
      go_wp2_with (go_at_call 14; ((with_reducible refine (HL.out _ HN.out.bel).mono ?_); rintro e w2 ⟨hb, t1, A1, n1, c1, a1', e1', rfl, hq1⟩; obtain ⟨rfl, rfl, rfl, hes⟩ := hq1.out; have HE := Lib.hid ((hes.since (HN.out.bel.size)).later (Bel.alloc w2 (.cells #[.int .i64 (t1.c : Nat), .string (ofL t1.n), .string (ofL t1.a), .string (ofL t1.p), .slice A1 n1 c1, .int .i64 0, .int .i64 0] 40))); have HN2 := Lib.hid ((HN.out.later hb).later (Bel.alloc w2 (.cells #[.int .i64 (t1.c : Nat), .string (ofL t1.n), .string (ofL t1.a), .string (ofL t1.p), .slice A1 n1 c1, .int .i64 0, .int .i64 0] 40))); clear hb hq1 hes; obtain ⟨y0, y1, y2, y3, y4, y5, y6⟩ := frees7 HN2.out.b3; obtain ⟨u0, u1, u2, u3, u4, u5, u6⟩ := frees7 HN2.out.b2; obtain ⟨c0, c1, c2, c3, c4, c5, c6⟩ := cells7 HN2.out.b3; obtain ⟨d0, d1, d2, d3, d4, d5, d6⟩ := cells7 HN2.out.b2; obtain ⟨s0', s1', s2', s3'⟩ := cells4 HN2.out.b0))
      (with_reducible apply nd_end)
      case hf => rfl
      case hp => rfl
      case hN => exact HN2.out
      case hO => (repeat with_reducible refine Only.setCell ?_ (.inl (by simp)) _); exact Only.refl _ _
      case he => intro W2 hO2; exact ⟨s, _, _, _, _, _, rfl, Lib.hid ⟨rfl, rfl, by decide⟩⟩
end Go.Proofs.Yteclclidibmajaa

namespace Go.Proofs.Yteclclidibmajaa
open Go.RowKit Go.BigFrame NT
set_option linter.unusedVariables false
set_option linter.unusedSimpArgs false
set_option maxRecDepth 100000

set_option maxRecDepth 100000 in
set_option maxHeartbeats 6400000 in
theorem rnode_define (s : HS) (hi : Inv s) (x : NT) (w : World) (hx : x.In w (Lt w)) (hk : x.k = 6) (hbody : ∀ W, Bel w W → Calls Try.prog 14 #[.agg #[.int .i64 0, .string ⟨#[]⟩, .string ⟨#[]⟩, .string ⟨#[]⟩], .slice x.A x.b.length x.c] W (RnP (listI (s0 0) x.b) 0 W)) : Calls Try.prog 21 #[.agg #[.int .i64 (s.c : Nat), .string (ofL s.n), .string (ofL s.a), .string (ofL s.p)], nV x] w (RnP (nodeI s x) x.a w) := by
  have k0 : (x.k == 0) = false := by rw [hk]; rfl
  have k1 : (x.k == 1) = false := by rw [hk]; rfl
  have k2 : (x.k == 2) = false := by rw [hk]; rfl
  have k3 : (x.k == 3) = false := by rw [hk]; rfl
  have k4 : (x.k == 4) = false := by rw [hk]; rfl
  have k6 : (x.k == 6) = true := by rw [hk]; rfl
  rw [nodeI_eq, if_neg (by rw [hk]; decide), if_neg (by rw [hk]; decide), if_neg (by rw [hk]; decide), if_neg (by rw [hk]; decide), if_neg (by rw [hk]; decide), if_pos hk]
  have HN := Lib.hid (nd_start w s x)
  cases hr : listI (s0 0) x.b with
  | no a1 e1 =>
    rw [hr] at hbody
    have HL := Lib.hid hbody
    have he := listI_err hr
    have hk0 : (e1 : Int) ≠ 0 := by omega
    have hk1 : ((e1 : Int) != 0) = true := bne_iff_ne.2 hk0
    have HE := Lib.hid he
    clear hbody hr hi hx hk he
    rw [IR.next_no]
    go_enter Try.func21, Try.ntmps21
    go_wp2_with (go_at_call 14; ((with_reducible refine (HL.out _ HN.out.bel).mono ?_); rintro e w2 ⟨hb, t1, A1, n1, c1, a1', e1', rfl, hq⟩; obtain ⟨rfl, rfl, hne⟩ := hq.out; have HN2 := Lib.hid ((HN.out.later hb).later (Bel.alloc w2 (.cells #[.int .i64 (t1.c : Nat), .string (ofL t1.n), .string (ofL t1.a), .string (ofL t1.p), .slice A1 n1 c1, .int .i64 a1', .int .i64 e1] 40))); clear hb hq hne; obtain ⟨y0, y1, y2, y3, y4, y5, y6⟩ := frees7 HN2.out.b3; obtain ⟨u0, u1, u2, u3, u4, u5, u6⟩ := frees7 HN2.out.b2; obtain ⟨c0, c1, c2, c3, c4, c5, c6⟩ := cells7 HN2.out.b3; obtain ⟨d0, d1, d2, d3, d4, d5, d6⟩ := cells7 HN2.out.b2))
    (with_reducible apply nd_end)
    case hf => rfl
    case hp => rfl
    case hN => exact HN2.out
    case hO => (repeat with_reducible refine Only.setCell ?_ (.inl (by simp)) _); exact Only.refl _ _
    case he => intro W2 hO2; exact ⟨t1, _, _, _, _, _, rfl, Lib.hid ⟨rfl, rfl, by have := HE.out; omega⟩⟩
  | ok s1 es1 =>
    rw [hr] at hbody
    have HL := Lib.hid hbody
    rw [IR.next_ok]
    clear hbody hr hi hx hk
    have hgr := rst_guard16
    cases hq : eqH s1 (s0 0) with
    | true =>
      have hcmp : ∀ W, (binOp .neq 38 (.agg #[.int .i64 (s1.c : Nat), .string (ofL s1.n), .string (ofL s1.a), .string (ofL s1.p)]) (.agg #[.int .i64 0, .string ⟨#[]⟩, .string ⟨#[]⟩, .string ⟨#[]⟩])).run Try.prog W = .ok (.bool false) W := fun W => by have h := rst_neq s1 (s0 0) W; rw [hq] at h; exact h
      clear hq
      rw [if_pos rfl]
      go_enter Try.func21, Try.ntmps21
      go_wp2_with (go_at_call 14; ((with_reducible refine (HL.out _ HN.out.bel).mono ?_); rintro e w2 ⟨hb, t1, A1, n1, c1, a1', e1', rfl, hq1⟩; obtain ⟨rfl, rfl, rfl, hes⟩ := hq1.out; have HE := Lib.hid ((hes.since (HN.out.bel.size)).later (Bel.alloc w2 (.cells #[.int .i64 (t1.c : Nat), .string (ofL t1.n), .string (ofL t1.a), .string (ofL t1.p), .slice A1 n1 c1, .int .i64 0, .int .i64 0] 40))); have HN2 := Lib.hid ((HN.out.later hb).later (Bel.alloc w2 (.cells #[.int .i64 (t1.c : Nat), .string (ofL t1.n), .string (ofL t1.a), .string (ofL t1.p), .slice A1 n1 c1, .int .i64 0, .int .i64 0] 40))); clear hb hq1 hes; obtain ⟨y0, y1, y2, y3, y4, y5, y6⟩ := frees7 HN2.out.b3; obtain ⟨u0, u1, u2, u3, u4, u5, u6⟩ := frees7 HN2.out.b2; obtain ⟨c0, c1, c2, c3, c4, c5, c6⟩ := cells7 HN2.out.b3; obtain ⟨d0, d1, d2, d3, d4, d5, d6⟩ := cells7 HN2.out.b2; obtain ⟨s0', s1', s2', s3'⟩ := cells4 HN2.out.b0))
      (with_reducible apply nd_end)
      case hf => rfl
      case hp => rfl
      case hN => exact HN2.out
      case hO => (repeat with_reducible refine Only.setCell ?_ (.inl (by simp)) _); exact Only.refl _ _
      case he => intro W2 hO2; exact ⟨s, _, _, _, _, _, rfl, Lib.hid ⟨rfl, rfl, rfl, HE.out.only hO2 (fun k hk hm => by have h1 := HE.out.blk HN2.out.b2 (by decide); have h2 := HE.out.blk HN2.out.b3 (by decide); simp at hm; rcases hm with rfl | rfl; exact h1 hk; exact h2 hk)⟩⟩
    | false =>
      have hcmp : ∀ W, (binOp .neq 38 (.agg #[.int .i64 (s1.c : Nat), .string (ofL s1.n), .string (ofL s1.a), .string (ofL s1.p)]) (.agg #[.int .i64 0, .string ⟨#[]⟩, .string ⟨#[]⟩, .string ⟨#[]⟩])).run Try.prog W = .ok (.bool true) W := fun W => by have h := rst_neq s1 (s0 0) W; rw [hq] at h; exact h
      clear hq
      rw [if_neg (by decide)]
      go_enter Try.func21, Try.ntmps21
      go_wp2_with (go_at_call 14; ((with_reducible refine (HL.out _ HN.out.bel).mono ?_); rintro e w2 ⟨hb, t1, A1, n1, c1, a1', e1', rfl, hq1⟩; obtain ⟨rfl, rfl, rfl, hes⟩ := hq1.out; have HE := Lib.hid ((hes.since (HN.out.bel.size)).later (Bel.alloc w2 (.cells #[.int .i64 (t1.c : Nat), .string (ofL t1.n), .string (ofL t1.a), .string (ofL t1.p), .slice A1 n1 c1, .int .i64 0, .int .i64 0] 40))); have HN2 := Lib.hid ((HN.out.later hb).later (Bel.alloc w2 (.cells #[.int .i64 (t1.c : Nat), .string (ofL t1.n), .string (ofL t1.a), .string (ofL t1.p), .slice A1 n1 c1, .int .i64 0, .int .i64 0] 40))); clear hb hq1 hes; obtain ⟨y0, y1, y2, y3, y4, y5, y6⟩ := frees7 HN2.out.b3; obtain ⟨u0, u1, u2, u3, u4, u5, u6⟩ := frees7 HN2.out.b2; obtain ⟨c0, c1, c2, c3, c4, c5, c6⟩ := cells7 HN2.out.b3; obtain ⟨d0, d1, d2, d3, d4, d5, d6⟩ := cells7 HN2.out.b2; obtain ⟨s0', s1', s2', s3'⟩ := cells4 HN2.out.b0))
      (with_reducible apply nd_end)
      case hf => rfl
      case hp => rfl
      case hN => exact HN2.out
      case hO => (repeat with_reducible refine Only.setCell ?_ (.inl (by simp)) _); exact Only.refl _ _
      case he => intro W2 hO2; exact ⟨s, _, _, _, _, _, rfl, Lib.hid ⟨rfl, rfl, by decide⟩⟩
end Go.Proofs.Yteclclidibmajaa

namespace Go.Proofs.Yteclclidibmajaa
open Go.RowKit Go.BigFrame NT
set_option linter.unusedVariables false
set_option linter.unusedSimpArgs false
set_option maxRecDepth 100000

set_option maxRecDepth 100000 in
set_option maxHeartbeats 6400000 in
theorem rnode_if (s : HS) (hi : Inv s) (x : NT) (w : World) (hx : x.In w (Lt w)) (hk : x.k = 2 ∧ x.tot ≤ 100000) (hbody : ∀ W, Bel w W → Calls Try.prog 14 #[.agg #[.int .i64 (s.c : Nat), .string (ofL s.n), .string (ofL s.a), .string (ofL s.p)], .slice x.A x.b.length x.c] W (RnP (listI s x.b) 0 W)) (helse : ∀ W, Bel w W → Calls Try.prog 14 #[.agg #[.int .i64 (s.c : Nat), .string (ofL s.n), .string (ofL s.a), .string (ofL s.p)], .slice x.B x.l.length x.d] W (RnP (listI s x.l) 0 W)) : Calls Try.prog 21 #[.agg #[.int .i64 (s.c : Nat), .string (ofL s.n), .string (ofL s.a), .string (ofL s.p)], nV x] w (RnP (nodeI s x) x.a w) := by
  obtain ⟨hk, htot⟩ := hk
  have k0 : (x.k == 0) = false := by rw [hk]; rfl
  have k1 : (x.k == 1) = false := by rw [hk]; rfl
  have k2 : (x.k == 2) = true := by rw [hk]; rfl
  rw [nodeI_eq, if_neg (by rw [hk]; decide), if_neg (by rw [hk]; decide), if_pos hk]
  have HN := Lib.hid (nd_start w s x)
  rw [tot_eq] at htot
  cases hr : listI s x.b with
  | no a1 e1 =>
    rw [hr] at hbody
    have HL := Lib.hid hbody
    have he := listI_err hr
    have hk0 : (e1 : Int) ≠ 0 := by omega
    have hk1 : ((e1 : Int) != 0) = true := bne_iff_ne.2 hk0
    have HE := Lib.hid he
    clear hbody helse htot hr hi hx hk he
    rw [IR.next_no]
    go_enter Try.func21, Try.ntmps21
    go_wp2_with (go_at_call 14; ((with_reducible refine (HL.out _ HN.out.bel).mono ?_); rintro e w2 ⟨hb, t1, A1, n1, c1, a1', e1', rfl, hq⟩; obtain ⟨rfl, rfl, hne⟩ := hq.out; have HN2 := Lib.hid ((HN.out.later hb).later (Bel.alloc w2 (.cells #[.int .i64 (t1.c : Nat), .string (ofL t1.n), .string (ofL t1.a), .string (ofL t1.p), .slice A1 n1 c1, .int .i64 a1', .int .i64 e1] 40))); clear hb hq hne; obtain ⟨y0, y1, y2, y3, y4, y5, y6⟩ := frees7 HN2.out.b3; obtain ⟨u0, u1, u2, u3, u4, u5, u6⟩ := frees7 HN2.out.b2; obtain ⟨c0, c1, c2, c3, c4, c5, c6⟩ := cells7 HN2.out.b3; obtain ⟨d0, d1, d2, d3, d4, d5, d6⟩ := cells7 HN2.out.b2))
    (with_reducible apply nd_end)
    case hf => rfl
    case hp => rfl
    case hN => exact HN2.out
    case hO => (repeat with_reducible refine Only.setCell ?_ (.inl (by simp)) _); exact Only.refl _ _
    case he => intro W2 hO2; exact ⟨t1, _, _, _, _, _, rfl, Lib.hid ⟨rfl, rfl, by have := HE.out; omega⟩⟩
  | ok s1 es1 =>
    rw [hr] at hbody
    rw [IR.next_ok]
    have hle1 := listI_le hr
    have HLB := Lib.hid hbody
    have hgr := rst_guard16
    cases hr2 : listI s x.l with
    | no a1 e1 =>
      rw [hr2] at helse
      have HLE := Lib.hid helse
      have he := listI_err hr2
      have hk0 : (e1 : Int) ≠ 0 := by omega
      have hk1 : ((e1 : Int) != 0) = true := bne_iff_ne.2 hk0
      have HE := Lib.hid he
      clear hbody helse htot hle1 hr hr2 hi hx hk he
      rw [IR.next_no]
      go_enter Try.func21, Try.ntmps21
      go_wp2_with (first
        | (go_at_call 14; ((with_reducible refine (HLB.out _ HN.out.bel).mono ?_); rintro e w2 ⟨hb, t1, A1, n1, c1, a1', e1', rfl, hq1⟩; obtain ⟨rfl, rfl, rfl, hes⟩ := hq1.out; have HE1 := Lib.hid ((hes.since (HN.out.bel.size)).later (Bel.alloc w2 (.cells #[.int .i64 (t1.c : Nat), .string (ofL t1.n), .string (ofL t1.a), .string (ofL t1.p), .slice A1 n1 c1, .int .i64 0, .int .i64 0] 40))); have HNa := Lib.hid (HN.out.later hb); have HN2 := Lib.hid (HNa.out.later (Bel.alloc w2 (.cells #[.int .i64 (t1.c : Nat), .string (ofL t1.n), .string (ofL t1.a), .string (ofL t1.p), .slice A1 n1 c1, .int .i64 0, .int .i64 0] 40))); have H8 := Lib.hid (Blk.new w2 40 (rsC t1 A1 n1 c1 0 0)); clear hb hq1 hes; obtain ⟨s0', s1', s2', s3'⟩ := cells4 HN2.out.b0; obtain ⟨x0', x1', x2', x3', x4', x5', x6', x7'⟩ := cells8_16 HN2.out.b1))
        | (go_at_call 14; ((with_reducible refine (HLE.out _ HN2.out.bel).mono ?_); rintro e w4 ⟨hb, t2, A2, n2, c2, a2', e2', rfl, hq⟩; obtain ⟨rfl, rfl, hne⟩ := hq.out; have HN4 := Lib.hid ((HN2.out.later hb).later (Bel.alloc w4 (.cells #[.int .i64 (t2.c : Nat), .string (ofL t2.n), .string (ofL t2.a), .string (ofL t2.p), .slice A2 n2 c2, .int .i64 a2', .int .i64 e1] 40))); clear hb hq hne; obtain ⟨y0, y1, y2, y3, y4, y5, y6⟩ := frees7 HN4.out.b3; obtain ⟨u0, u1, u2, u3, u4, u5, u6⟩ := frees7 HN4.out.b2; obtain ⟨c0, c1, c2, c3, c4, c5, c6⟩ := cells7 HN4.out.b3; obtain ⟨d0, d1, d2, d3, d4, d5, d6⟩ := cells7 HN4.out.b2)))
      (with_reducible apply nd_end)
      case hf => rfl
      case hp => rfl
      case hN => exact HN4.out
      case hO => (repeat with_reducible refine Only.setCell ?_ (.inl (by simp)) _); exact Only.refl _ _
      case he => intro W2 hO2; exact ⟨t2, _, _, _, _, _, rfl, Lib.hid ⟨rfl, rfl, by have := HE.out; omega⟩⟩
    | ok s2 es2 =>
      rw [hr2] at helse
      rw [IR.next_ok]
      have hle2 := listI_le hr2
      have HLE := Lib.hid helse
      have HLE2 := Lib.hid (show es1.length + es2.length ≤ 100000 by omega)
      clear hbody helse htot hle1 hle2 hr hr2 hi hx hk
      obtain ⟨i0, hi, hz0, hz1, hz2⟩ := info_int16
      have HI0 := Lib.hid hi
      have HZ0 := Lib.hid hz0
      have HZ1 := Lib.hid hz1
      have HZ2 := Lib.hid hz2
      clear hi hz0 hz1 hz2
      cases hq : eqH s1 s2 with
      | true =>
        have hcmp : ∀ W, (binOp .neq 38 (.agg #[.int .i64 (s1.c : Nat), .string (ofL s1.n), .string (ofL s1.a), .string (ofL s1.p)]) (.agg #[.int .i64 (s2.c : Nat), .string (ofL s2.n), .string (ofL s2.a), .string (ofL s2.p)])).run Try.prog W = .ok (.bool false) W := fun W => by have h := rst_neq s1 s2 W; rw [hq] at h; exact h
        clear hq
        rw [if_pos rfl]
        go_enter Try.func21, Try.ntmps21
        go_wp2_with (first
          | (go_at_call 14; ((with_reducible refine (HLB.out _ HN.out.bel).mono ?_); rintro e w2 ⟨hb, t1, A1, n1, c1, a1', e1', rfl, hq1⟩; obtain ⟨rfl, rfl, rfl, hes⟩ := hq1.out; have HE1 := Lib.hid ((hes.since (HN.out.bel.size)).later (Bel.alloc w2 (.cells #[.int .i64 (t1.c : Nat), .string (ofL t1.n), .string (ofL t1.a), .string (ofL t1.p), .slice A1 n1 c1, .int .i64 0, .int .i64 0] 40))); have HNa := Lib.hid (HN.out.later hb); have HN2 := Lib.hid (HNa.out.later (Bel.alloc w2 (.cells #[.int .i64 (t1.c : Nat), .string (ofL t1.n), .string (ofL t1.a), .string (ofL t1.p), .slice A1 n1 c1, .int .i64 0, .int .i64 0] 40))); have H8 := Lib.hid (Blk.new w2 40 (rsC t1 A1 n1 c1 0 0)); clear hb hq1 hes; obtain ⟨s0', s1', s2', s3'⟩ := cells4 HN2.out.b0; obtain ⟨x0', x1', x2', x3', x4', x5', x6', x7'⟩ := cells8_16 HN2.out.b1))
          | (go_at_call 14; ((with_reducible refine (HLE.out _ HN2.out.bel).mono ?_); rintro e w4 ⟨hb, t2, A2, n2, c2, a2', e2', rfl, hq2⟩; obtain ⟨rfl, rfl, rfl, hes⟩ := hq2.out; have HE2 := Lib.hid ((hes.since (HN2.out.bel.size)).later (Bel.alloc w4 (.cells #[.int .i64 (t2.c : Nat), .string (ofL t2.n), .string (ofL t2.a), .string (ofL t2.p), .slice A2 n2 c2, .int .i64 0, .int .i64 0] 40))); have HE3 := Lib.hid ((HE1.out.later hb).later (Bel.alloc w4 (.cells #[.int .i64 (t2.c : Nat), .string (ofL t2.n), .string (ofL t2.a), .string (ofL t2.p), .slice A2 n2 c2, .int .i64 0, .int .i64 0] 40))); have HN5 := Lib.hid ((HN2.out.later hb).later (Bel.alloc w4 (.cells #[.int .i64 (t2.c : Nat), .string (ofL t2.n), .string (ofL t2.a), .string (ofL t2.p), .slice A2 n2 c2, .int .i64 0, .int .i64 0] 40))); have H85 := Lib.hid ((H8.out.belh hb).belh (Bel.alloc w4 (.cells #[.int .i64 (t2.c : Nat), .string (ofL t2.n), .string (ofL t2.a), .string (ofL t2.p), .slice A2 n2 c2, .int .i64 0, .int .i64 0] 40))); have H9 := Lib.hid (Blk.new w4 40 (rsC t2 A2 n2 c2 0 0)); have HX := Lib.hid (show w2.heap.size ≠ w.heap.size + 1 + 1 + 1 ∧ w4.heap.size ≠ w.heap.size + 1 + 1 + 1 by have h1 := HNa.out.b3.lt; have h2 := (HN2.out.later hb).b3.lt; omega); clear hb hq2 hes; obtain ⟨y0, y1, y2, y3, y4, y5, y6⟩ := frees7 HN5.out.b3; obtain ⟨u0, u1, u2, u3, u4, u5, u6⟩ := frees7 HN5.out.b2; obtain ⟨c0, c1, c2, c3, c4, c5, c6⟩ := cells7 HN5.out.b3; obtain ⟨d0, d1, d2, d3, d4, d5, d6⟩ := cells7 HN5.out.b2; obtain ⟨p0, p1, p2, p3, p4, p5, p6⟩ := cells7 H85.out; obtain ⟨q0, q1, q2, q3, q4, q5, q6⟩ := cells7 H9.out)))
        clear y0 y1 y2 y3 y4 y5 y6 u0 u1 u2 u3 u4 u5 u6 c0 c1 c2 c3 c4 c5 c6 d0 d1 d2 d3 d4 d5 d6 p0 p1 p2 p3 p4 p5 p6 q0 q1 q2 q3 q4 q5 q6 s0' s1' s2' s3' x0' x1' x2' x3' x4' x5' x6' x7'
        have hN6 := ((((HN5.out.set 0 (.int .i64 (t1.c : Nat))).set 1 (.string (ofL t1.n))).set 2 (.string (ofL t1.a))).set 3 (.string (ofL t1.p))).later (Bel.drew _)
        simp only [List.set_cons_succ, List.set_cons_zero] at hN6
        have HN6 := Lib.hid hN6
        have hO6 : Only [w.heap.size + 1 + 1 + 1] (w4.alloc (.cells #[.int .i64 (t2.c : Nat), .string (ofL t2.n), .string (ofL t2.a), .string (ofL t2.p), .slice A2 n2 c2, .int .i64 0, .int .i64 0] 40)) ((((((w4.alloc (.cells #[.int .i64 (t2.c : Nat), .string (ofL t2.n), .string (ofL t2.a), .string (ofL t2.p), .slice A2 n2 c2, .int .i64 0, .int .i64 0] 40))).setCell ⟨w.heap.size + 1 + 1 + 1, 0, none⟩ (.int .i64 (t1.c : Nat))).setCell ⟨w.heap.size + 1 + 1 + 1, 1, none⟩ (.string (ofL t1.n))).setCell ⟨w.heap.size + 1 + 1 + 1, 2, none⟩ (.string (ofL t1.a))).setCell ⟨w.heap.size + 1 + 1 + 1, 3, none⟩ (.string (ofL t1.p))).drew := by
          refine Only.drew ?_
          repeat with_reducible refine Only.setCell ?_ (.inl (by simp)) _
          exact Only.refl _ _
        have HE16 := Lib.hid (HE3.out.only hO6 (fun k hk hm => by rw [List.mem_singleton] at hm; subst hm; exact HE3.out.blk HN5.out.b3 (by decide) hk))
        have HE26 := Lib.hid (HE2.out.only hO6 (fun k hk hm => by rw [List.mem_singleton] at hm; subst hm; exact HE2.out.blk HN5.out.b3 (by decide) hk))
        have H86 := Lib.hid (H85.out.only hO6 (by simpa using HX.out.1))
        have H96 := Lib.hid (H9.out.only hO6 (by simpa using HX.out.2))
        clear hN6 hO6
        refine region_begin (T := [((((((w4.alloc (.cells #[.int .i64 (t2.c : Nat), .string (ofL t2.n), .string (ofL t2.a), .string (ofL t2.p), .slice A2 n2 c2, .int .i64 0, .int .i64 0] 40))).setCell ⟨w.heap.size + 1 + 1 + 1, 0, none⟩ (.int .i64 (t1.c : Nat))).setCell ⟨w.heap.size + 1 + 1 + 1, 1, none⟩ (.string (ofL t1.n))).setCell ⟨w.heap.size + 1 + 1 + 1, 2, none⟩ (.string (ofL t1.a))).setCell ⟨w.heap.size + 1 + 1 + 1, 3, none⟩ (.string (ofL t1.p))).drew.heap.size, ((((((w4.alloc (.cells #[.int .i64 (t2.c : Nat), .string (ofL t2.n), .string (ofL t2.a), .string (ofL t2.p), .slice A2 n2 c2, .int .i64 0, .int .i64 0] 40))).setCell ⟨w.heap.size + 1 + 1 + 1, 0, none⟩ (.int .i64 (t1.c : Nat))).setCell ⟨w.heap.size + 1 + 1 + 1, 1, none⟩ (.string (ofL t1.n))).setCell ⟨w.heap.size + 1 + 1 + 1, 2, none⟩ (.string (ofL t1.a))).setCell ⟨w.heap.size + 1 + 1 + 1, 3, none⟩ (.string (ofL t1.p))).drew.heap.size + 1, w.heap.size + 1 + 1 + 1]) (by kernel_rfl) ?_
        generalize ((((((w4.alloc (.cells #[.int .i64 (t2.c : Nat), .string (ofL t2.n), .string (ofL t2.a), .string (ofL t2.p), .slice A2 n2 c2, .int .i64 0, .int .i64 0] 40))).setCell ⟨w.heap.size + 1 + 1 + 1, 0, none⟩ (.int .i64 (t1.c : Nat))).setCell ⟨w.heap.size + 1 + 1 + 1, 1, none⟩ (.string (ofL t1.n))).setCell ⟨w.heap.size + 1 + 1 + 1, 2, none⟩ (.string (ofL t1.a))).setCell ⟨w.heap.size + 1 + 1 + 1, 3, none⟩ (.string (ofL t1.p))).drew = W at HN6 HE16 HE26 H86 H96 ⊢
        have hi := HI0.out
        have hz0 := HZ0.out
        have hz1 := HZ1.out
        have hz2 := HZ2.out
        have hle := HLE2.out
        have h83 := HX.out.1
        have h93 := HX.out.2
        have l8 := H86.out.lt
        have l9 := H96.out.lt
        have cA : ∀ X : Later [W.heap.size, W.heap.size + 1, w.heap.size + 1 + 1 + 1] W, X.w.cell? ⟨w2.heap.size, 4, none⟩ = some (.slice A1 n1 c1) := fun X => (H86.out.only X.h (by simp; omega)).cell 4
        have cB : ∀ X : Later [W.heap.size, W.heap.size + 1, w.heap.size + 1 + 1 + 1] W, X.w.cell? ⟨w4.heap.size, 4, none⟩ = some (.slice A2 n2 c2) := fun X => (H96.out.only X.h (by simp; omega)).cell 4
        refine region_seg [false, true, true, false, true, true] 5 (by kernel_rfl) (by kernel_rfl) (by kernel_rfl) rfl (fun _ _ d _ _ h => by cases d <;> exact h) ?_
        repeat (first | with_reducible refine wpMask_pass ?_ | (refine wpMask_want (by rfl) (fun K hK => ?_); go_big_quiet_op; refine hK _ ?_; clear hK K))
        with_reducible refine wpMask_nil ?_
        clear cA cB
        have hn1 := HE16.out.1
        have hn2 := HE26.out.1
        refine region_make 0 (v := .slice (some ⟨W.heap.size, 0, none⟩) 0 0) (w1 := W.alloc (.cells #[] 3)) (by kernel_rfl) rfl (by rfl) (by go_simp) ((Only.refl _ _).alloc _) ?_
        simp only [List.getElem_toArray, List.getElem_cons_zero, List.getElem_cons_succ, Act.put, List.setIfInBounds_toArray, List.set_cons_zero, List.set_cons_succ]
        have hO3 : Only [] W (W.alloc (.cells #[] 3)) := (Only.refl [] W).alloc _
        have hrd1 := HE16.out.2.1.reads.only' hO3 (Nat.le_refl _) (by simp)
        refine region_rowAppend_at 3 (by kernel_rfl) rfl (by rfl) (.tmp 65) (.tmp 67) 24 rfl 3 i0 _ 8 Try.underlying24 hi hz0 hz1 hz2 rfl (some ⟨W.heap.size, 0, none⟩) 0 0 [] rfl (RowAt.of_blk (Blk.new W 3 []) (by simp)) W.heap.size A1 n1 c1 (vin es1) rfl hrd1 (vin_one _) (by unfold maxLen; omega) (by omega) n1 (by omega) (fun g hg => by simp [rowT_some] at hg; simp; omega) ?_
        intro A3 c3 w6 HR1 hO4 HK1 hT1
        simp only [List.getElem_toArray, List.getElem_cons_zero, List.getElem_cons_succ, Act.put, List.setIfInBounds_toArray, List.set_cons_zero, List.set_cons_succ]
        have hw1 : Only [] W w6 := hO3.join hO4 (fun k hk => .inr (by simp [rowT_some] at hk; omega))
        have hk1 : ∀ k, k ∈ rowT A3 → k = W.heap.size ∨ k = W.heap.size + 1 := fun k hk => (HK1.out k hk).imp (fun h => by simpa [rowT_some] using h) (fun h => by simpa using h)
        have hrd2 := HE26.out.2.1.reads.only' hw1 (Nat.le_refl _) (by simp)
        refine region_rowAppend_at 6 (by kernel_rfl) rfl (by rfl) (.tmp 68) (.tmp 70) 24 rfl 3 i0 _ 8 Try.underlying24 hi hz0 hz1 hz2 rfl A3 n1 c3 _ rfl HR1.out W.heap.size A2 n2 c2 (vin es2) rfl hrd2 (vin_one _) (by unfold maxLen; omega) (by omega) (n1 + n2) rfl (fun g hg => by have := hk1 g hg; simp; omega) ?_
        intro A4 c4 w7 HR2 hO5 HK2 hT2
        simp only [List.getElem_toArray, List.getElem_cons_zero, List.getElem_cons_succ, Act.put, List.setIfInBounds_toArray, List.set_cons_zero, List.set_cons_succ]
        have hw2 : Only [] W w7 := hw1.join hO5 (fun k hk => .inr (by have := hk1 k hk; omega))
        have hR2 := HR2.out
        rw [List.nil_append, ← vin_append] at hR2
        have HN7 := Lib.hid (HN6.out.later (bel_of_only hw2))
        have HE4 := Lib.hid (show Es w w7 A4 (n1 + n2) c4 (es1 ++ es2) from ⟨by rw [List.length_append, hn1, hn2], hR2, fun k hk => by
          have h1 := HN6.out.bel.size
          have h2 := hw1.size
          rcases HK2.out k hk with h | h
          · have := hk1 k h; omega
          · omega⟩)
        have hN8 := HN7.out.set 4 (.slice A4 (n1 + n2) c4)
        simp only [List.set_cons_succ, List.set_cons_zero] at hN8
        have HN8 := Lib.hid hN8
        refine region_seg [false, false, false, false, false, false, false, true] 1 (by kernel_rfl) (by kernel_rfl) (by kernel_rfl) rfl (fun _ _ d _ _ h => by cases d <;> exact h) ?_
        repeat (first | with_reducible refine wpMask_pass ?_ | (refine wpMask_want (by rfl) (fun K hK => ?_); go_big_quiet_op; refine hK _ ?_; clear hK K))
        with_reducible refine wpMask_nil ?_
        have f4 := HN7.out.b3.free 4
        have g4 := HN7.out.b3.cell 4
        refine region_store 8 (w1 := w7.setCell ⟨w.heap.size + 1 + 1 + 1, 4, none⟩ (.slice A4 (n1 + n2) c4)) (by kernel_rfl) rfl (by rfl) (by go_simp) ((Only.refl _ _).setCell (.inl (by simp)) _) ?_
        simp only [List.getElem_toArray, List.getElem_cons_zero, List.getElem_cons_succ, Act.put, List.setIfInBounds_toArray, List.set_cons_zero, List.set_cons_succ]
        refine region_end (by kernel_rfl) ?_
        clear f4 g4 hN8 hR2 hw2 hrd2 hk1 hw1 hrd1 hO3 hi hz0 hz1 hz2 hle hn1 hn2 h83 h93 l8 l9 hO4 hT1 hO5 hT2
        obtain ⟨y0, y1, y2, y3, y4, y5, y6⟩ := frees7 HN8.out.b3
        obtain ⟨u0, u1, u2, u3, u4, u5, u6⟩ := frees7 HN8.out.b2
        obtain ⟨c0, c1, c2, c3, c4, c5, c6⟩ := cells7 HN8.out.b3
        obtain ⟨d0, d1, d2, d3, d4, d5, d6⟩ := cells7 HN8.out.b2
        go_wp2_with fail
        (with_reducible apply nd_end)
        case hf => rfl
        case hp => rfl
        case hN => exact HN7.out
        case hO => (repeat with_reducible refine Only.setCell ?_ (.inl (by simp)) _); exact Only.refl _ _
        case he => intro W2 hO2; exact ⟨t1, _, _, _, _, _, rfl, Lib.hid ⟨rfl, rfl, rfl, HE4.out.only hO2 (fun k hk hm => by have h1 := HE4.out.blk HN7.out.b2 (by decide); have h2 := HE4.out.blk HN7.out.b3 (by decide); simp at hm; rcases hm with rfl | rfl; exact h1 hk; exact h2 hk)⟩⟩
      | false =>
        have hcmp : ∀ W, (binOp .neq 38 (.agg #[.int .i64 (s1.c : Nat), .string (ofL s1.n), .string (ofL s1.a), .string (ofL s1.p)]) (.agg #[.int .i64 (s2.c : Nat), .string (ofL s2.n), .string (ofL s2.a), .string (ofL s2.p)])).run Try.prog W = .ok (.bool true) W := fun W => by have h := rst_neq s1 s2 W; rw [hq] at h; exact h
        clear hq
        rw [if_neg (by decide)]
        go_enter Try.func21, Try.ntmps21
        go_wp2_with (first
          | (go_at_call 14; ((with_reducible refine (HLB.out _ HN.out.bel).mono ?_); rintro e w2 ⟨hb, t1, A1, n1, c1, a1', e1', rfl, hq1⟩; obtain ⟨rfl, rfl, rfl, hes⟩ := hq1.out; have HE1 := Lib.hid ((hes.since (HN.out.bel.size)).later (Bel.alloc w2 (.cells #[.int .i64 (t1.c : Nat), .string (ofL t1.n), .string (ofL t1.a), .string (ofL t1.p), .slice A1 n1 c1, .int .i64 0, .int .i64 0] 40))); have HNa := Lib.hid (HN.out.later hb); have HN2 := Lib.hid (HNa.out.later (Bel.alloc w2 (.cells #[.int .i64 (t1.c : Nat), .string (ofL t1.n), .string (ofL t1.a), .string (ofL t1.p), .slice A1 n1 c1, .int .i64 0, .int .i64 0] 40))); have H8 := Lib.hid (Blk.new w2 40 (rsC t1 A1 n1 c1 0 0)); clear hb hq1 hes; obtain ⟨s0', s1', s2', s3'⟩ := cells4 HN2.out.b0; obtain ⟨x0', x1', x2', x3', x4', x5', x6', x7'⟩ := cells8_16 HN2.out.b1))
          | (go_at_call 14; ((with_reducible refine (HLE.out _ HN2.out.bel).mono ?_); rintro e w4 ⟨hb, t2, A2, n2, c2, a2', e2', rfl, hq2⟩; obtain ⟨rfl, rfl, rfl, hes⟩ := hq2.out; have HE2 := Lib.hid ((hes.since (HN2.out.bel.size)).later (Bel.alloc w4 (.cells #[.int .i64 (t2.c : Nat), .string (ofL t2.n), .string (ofL t2.a), .string (ofL t2.p), .slice A2 n2 c2, .int .i64 0, .int .i64 0] 40))); have HE3 := Lib.hid ((HE1.out.later hb).later (Bel.alloc w4 (.cells #[.int .i64 (t2.c : Nat), .string (ofL t2.n), .string (ofL t2.a), .string (ofL t2.p), .slice A2 n2 c2, .int .i64 0, .int .i64 0] 40))); have HN5 := Lib.hid ((HN2.out.later hb).later (Bel.alloc w4 (.cells #[.int .i64 (t2.c : Nat), .string (ofL t2.n), .string (ofL t2.a), .string (ofL t2.p), .slice A2 n2 c2, .int .i64 0, .int .i64 0] 40))); have H85 := Lib.hid ((H8.out.belh hb).belh (Bel.alloc w4 (.cells #[.int .i64 (t2.c : Nat), .string (ofL t2.n), .string (ofL t2.a), .string (ofL t2.p), .slice A2 n2 c2, .int .i64 0, .int .i64 0] 40))); have H9 := Lib.hid (Blk.new w4 40 (rsC t2 A2 n2 c2 0 0)); have HX := Lib.hid (show w2.heap.size ≠ w.heap.size + 1 + 1 + 1 ∧ w4.heap.size ≠ w.heap.size + 1 + 1 + 1 by have h1 := HNa.out.b3.lt; have h2 := (HN2.out.later hb).b3.lt; omega); clear hb hq2 hes; obtain ⟨y0, y1, y2, y3, y4, y5, y6⟩ := frees7 HN5.out.b3; obtain ⟨u0, u1, u2, u3, u4, u5, u6⟩ := frees7 HN5.out.b2; obtain ⟨c0, c1, c2, c3, c4, c5, c6⟩ := cells7 HN5.out.b3; obtain ⟨d0, d1, d2, d3, d4, d5, d6⟩ := cells7 HN5.out.b2; obtain ⟨p0, p1, p2, p3, p4, p5, p6⟩ := cells7 H85.out; obtain ⟨q0, q1, q2, q3, q4, q5, q6⟩ := cells7 H9.out)))
        clear y0 y1 y2 y3 y4 y5 y6 u0 u1 u2 u3 u4 u5 u6 c0 c1 c2 c3 c4 c5 c6 d0 d1 d2 d3 d4 d5 d6 p0 p1 p2 p3 p4 p5 p6 q0 q1 q2 q3 q4 q5 q6 s0' s1' s2' s3' x0' x1' x2' x3' x4' x5' x6' x7'
        have hN6 := (((((HN5.out.set 6 (.int .i64 16)).set 0 (.int .i64 (t1.c : Nat))).set 1 (.string (ofL t1.n))).set 2 (.string (ofL t1.a))).set 3 (.string (ofL t1.p))).later (Bel.drew _)
        simp only [List.set_cons_succ, List.set_cons_zero] at hN6
        have HN6 := Lib.hid hN6
        have hO6 : Only [w.heap.size + 1 + 1 + 1] (w4.alloc (.cells #[.int .i64 (t2.c : Nat), .string (ofL t2.n), .string (ofL t2.a), .string (ofL t2.p), .slice A2 n2 c2, .int .i64 0, .int .i64 0] 40)) (((((((w4.alloc (.cells #[.int .i64 (t2.c : Nat), .string (ofL t2.n), .string (ofL t2.a), .string (ofL t2.p), .slice A2 n2 c2, .int .i64 0, .int .i64 0] 40)).setCell ⟨w.heap.size + 1 + 1 + 1, 6, none⟩ (.int .i64 16))).setCell ⟨w.heap.size + 1 + 1 + 1, 0, none⟩ (.int .i64 (t1.c : Nat))).setCell ⟨w.heap.size + 1 + 1 + 1, 1, none⟩ (.string (ofL t1.n))).setCell ⟨w.heap.size + 1 + 1 + 1, 2, none⟩ (.string (ofL t1.a))).setCell ⟨w.heap.size + 1 + 1 + 1, 3, none⟩ (.string (ofL t1.p))).drew := by
          refine Only.drew ?_
          repeat with_reducible refine Only.setCell ?_ (.inl (by simp)) _
          exact Only.refl _ _
        have HE16 := Lib.hid (HE3.out.only hO6 (fun k hk hm => by rw [List.mem_singleton] at hm; subst hm; exact HE3.out.blk HN5.out.b3 (by decide) hk))
        have HE26 := Lib.hid (HE2.out.only hO6 (fun k hk hm => by rw [List.mem_singleton] at hm; subst hm; exact HE2.out.blk HN5.out.b3 (by decide) hk))
        have H86 := Lib.hid (H85.out.only hO6 (by simpa using HX.out.1))
        have H96 := Lib.hid (H9.out.only hO6 (by simpa using HX.out.2))
        clear hN6 hO6
        refine region_begin (T := [(((((((w4.alloc (.cells #[.int .i64 (t2.c : Nat), .string (ofL t2.n), .string (ofL t2.a), .string (ofL t2.p), .slice A2 n2 c2, .int .i64 0, .int .i64 0] 40)).setCell ⟨w.heap.size + 1 + 1 + 1, 6, none⟩ (.int .i64 16))).setCell ⟨w.heap.size + 1 + 1 + 1, 0, none⟩ (.int .i64 (t1.c : Nat))).setCell ⟨w.heap.size + 1 + 1 + 1, 1, none⟩ (.string (ofL t1.n))).setCell ⟨w.heap.size + 1 + 1 + 1, 2, none⟩ (.string (ofL t1.a))).setCell ⟨w.heap.size + 1 + 1 + 1, 3, none⟩ (.string (ofL t1.p))).drew.heap.size, (((((((w4.alloc (.cells #[.int .i64 (t2.c : Nat), .string (ofL t2.n), .string (ofL t2.a), .string (ofL t2.p), .slice A2 n2 c2, .int .i64 0, .int .i64 0] 40)).setCell ⟨w.heap.size + 1 + 1 + 1, 6, none⟩ (.int .i64 16))).setCell ⟨w.heap.size + 1 + 1 + 1, 0, none⟩ (.int .i64 (t1.c : Nat))).setCell ⟨w.heap.size + 1 + 1 + 1, 1, none⟩ (.string (ofL t1.n))).setCell ⟨w.heap.size + 1 + 1 + 1, 2, none⟩ (.string (ofL t1.a))).setCell ⟨w.heap.size + 1 + 1 + 1, 3, none⟩ (.string (ofL t1.p))).drew.heap.size + 1, w.heap.size + 1 + 1 + 1]) (by kernel_rfl) ?_
        generalize (((((((w4.alloc (.cells #[.int .i64 (t2.c : Nat), .string (ofL t2.n), .string (ofL t2.a), .string (ofL t2.p), .slice A2 n2 c2, .int .i64 0, .int .i64 0] 40)).setCell ⟨w.heap.size + 1 + 1 + 1, 6, none⟩ (.int .i64 16))).setCell ⟨w.heap.size + 1 + 1 + 1, 0, none⟩ (.int .i64 (t1.c : Nat))).setCell ⟨w.heap.size + 1 + 1 + 1, 1, none⟩ (.string (ofL t1.n))).setCell ⟨w.heap.size + 1 + 1 + 1, 2, none⟩ (.string (ofL t1.a))).setCell ⟨w.heap.size + 1 + 1 + 1, 3, none⟩ (.string (ofL t1.p))).drew = W at HN6 HE16 HE26 H86 H96 ⊢
        have hi := HI0.out
        have hz0 := HZ0.out
        have hz1 := HZ1.out
        have hz2 := HZ2.out
        have hle := HLE2.out
        have h83 := HX.out.1
        have h93 := HX.out.2
        have l8 := H86.out.lt
        have l9 := H96.out.lt
        have cA : ∀ X : Later [W.heap.size, W.heap.size + 1, w.heap.size + 1 + 1 + 1] W, X.w.cell? ⟨w2.heap.size, 4, none⟩ = some (.slice A1 n1 c1) := fun X => (H86.out.only X.h (by simp; omega)).cell 4
        have cB : ∀ X : Later [W.heap.size, W.heap.size + 1, w.heap.size + 1 + 1 + 1] W, X.w.cell? ⟨w4.heap.size, 4, none⟩ = some (.slice A2 n2 c2) := fun X => (H96.out.only X.h (by simp; omega)).cell 4
        refine region_seg [false, true, true, false, true, true] 5 (by kernel_rfl) (by kernel_rfl) (by kernel_rfl) rfl (fun _ _ d _ _ h => by cases d <;> exact h) ?_
        repeat (first | with_reducible refine wpMask_pass ?_ | (refine wpMask_want (by rfl) (fun K hK => ?_); go_big_quiet_op; refine hK _ ?_; clear hK K))
        with_reducible refine wpMask_nil ?_
        clear cA cB
        have hn1 := HE16.out.1
        have hn2 := HE26.out.1
        refine region_make 0 (v := .slice (some ⟨W.heap.size, 0, none⟩) 0 0) (w1 := W.alloc (.cells #[] 3)) (by kernel_rfl) rfl (by rfl) (by go_simp) ((Only.refl _ _).alloc _) ?_
        simp only [List.getElem_toArray, List.getElem_cons_zero, List.getElem_cons_succ, Act.put, List.setIfInBounds_toArray, List.set_cons_zero, List.set_cons_succ]
        have hO3 : Only [] W (W.alloc (.cells #[] 3)) := (Only.refl [] W).alloc _
        have hrd1 := HE16.out.2.1.reads.only' hO3 (Nat.le_refl _) (by simp)
        refine region_rowAppend_at 3 (by kernel_rfl) rfl (by rfl) (.tmp 65) (.tmp 67) 24 rfl 3 i0 _ 8 Try.underlying24 hi hz0 hz1 hz2 rfl (some ⟨W.heap.size, 0, none⟩) 0 0 [] rfl (RowAt.of_blk (Blk.new W 3 []) (by simp)) W.heap.size A1 n1 c1 (vin es1) rfl hrd1 (vin_one _) (by unfold maxLen; omega) (by omega) n1 (by omega) (fun g hg => by simp [rowT_some] at hg; simp; omega) ?_
        intro A3 c3 w6 HR1 hO4 HK1 hT1
        simp only [List.getElem_toArray, List.getElem_cons_zero, List.getElem_cons_succ, Act.put, List.setIfInBounds_toArray, List.set_cons_zero, List.set_cons_succ]
        have hw1 : Only [] W w6 := hO3.join hO4 (fun k hk => .inr (by simp [rowT_some] at hk; omega))
        have hk1 : ∀ k, k ∈ rowT A3 → k = W.heap.size ∨ k = W.heap.size + 1 := fun k hk => (HK1.out k hk).imp (fun h => by simpa [rowT_some] using h) (fun h => by simpa using h)
        have hrd2 := HE26.out.2.1.reads.only' hw1 (Nat.le_refl _) (by simp)
        refine region_rowAppend_at 6 (by kernel_rfl) rfl (by rfl) (.tmp 68) (.tmp 70) 24 rfl 3 i0 _ 8 Try.underlying24 hi hz0 hz1 hz2 rfl A3 n1 c3 _ rfl HR1.out W.heap.size A2 n2 c2 (vin es2) rfl hrd2 (vin_one _) (by unfold maxLen; omega) (by omega) (n1 + n2) rfl (fun g hg => by have := hk1 g hg; simp; omega) ?_
        intro A4 c4 w7 HR2 hO5 HK2 hT2
        simp only [List.getElem_toArray, List.getElem_cons_zero, List.getElem_cons_succ, Act.put, List.setIfInBounds_toArray, List.set_cons_zero, List.set_cons_succ]
        have hw2 : Only [] W w7 := hw1.join hO5 (fun k hk => .inr (by have := hk1 k hk; omega))
        have hR2 := HR2.out
        rw [List.nil_append, ← vin_append] at hR2
        have HN7 := Lib.hid (HN6.out.later (bel_of_only hw2))
        have HE4 := Lib.hid (show Es w w7 A4 (n1 + n2) c4 (es1 ++ es2) from ⟨by rw [List.length_append, hn1, hn2], hR2, fun k hk => by
          have h1 := HN6.out.bel.size
          have h2 := hw1.size
          rcases HK2.out k hk with h | h
          · have := hk1 k h; omega
          · omega⟩)
        have hN8 := HN7.out.set 4 (.slice A4 (n1 + n2) c4)
        simp only [List.set_cons_succ, List.set_cons_zero] at hN8
        have HN8 := Lib.hid hN8
        refine region_seg [false, false, false, false, false, false, false, true] 1 (by kernel_rfl) (by kernel_rfl) (by kernel_rfl) rfl (fun _ _ d _ _ h => by cases d <;> exact h) ?_
        repeat (first | with_reducible refine wpMask_pass ?_ | (refine wpMask_want (by rfl) (fun K hK => ?_); go_big_quiet_op; refine hK _ ?_; clear hK K))
        with_reducible refine wpMask_nil ?_
        have f4 := HN7.out.b3.free 4
        have g4 := HN7.out.b3.cell 4
        refine region_store 8 (w1 := w7.setCell ⟨w.heap.size + 1 + 1 + 1, 4, none⟩ (.slice A4 (n1 + n2) c4)) (by kernel_rfl) rfl (by rfl) (by go_simp) ((Only.refl _ _).setCell (.inl (by simp)) _) ?_
        simp only [List.getElem_toArray, List.getElem_cons_zero, List.getElem_cons_succ, Act.put, List.setIfInBounds_toArray, List.set_cons_zero, List.set_cons_succ]
        refine region_end (by kernel_rfl) ?_
        clear f4 g4 hN8 hR2 hw2 hrd2 hk1 hw1 hrd1 hO3 hi hz0 hz1 hz2 hle hn1 hn2 h83 h93 l8 l9 hO4 hT1 hO5 hT2
        obtain ⟨y0, y1, y2, y3, y4, y5, y6⟩ := frees7 HN8.out.b3
        obtain ⟨u0, u1, u2, u3, u4, u5, u6⟩ := frees7 HN8.out.b2
        obtain ⟨c0, c1, c2, c3, c4, c5, c6⟩ := cells7 HN8.out.b3
        obtain ⟨d0, d1, d2, d3, d4, d5, d6⟩ := cells7 HN8.out.b2
        go_wp2_with fail
        (with_reducible apply nd_end)
        case hf => rfl
        case hp => rfl
        case hN => exact HN7.out
        case hO => (repeat with_reducible refine Only.setCell ?_ (.inl (by simp)) _); exact Only.refl _ _
        case he => intro W2 hO2; exact ⟨t1, _, _, _, _, _, rfl, Lib.hid ⟨rfl, rfl, by decide⟩⟩
end Go.Proofs.Yteclclidibmajaa
