/-
  The program of layer 16: fail, call.
  The program of layer 16: print.
  The program of layer 16: block.
  A row of instructions that may be read.
  The program of layer 17: node, kind by kind (text, print, call, flush, others).
-/
import Derived.Test.YtpcapmdfjmpdiaaGreatDoorZPl12
import Derived.Test.YtpcapmdfjmpdiaaGreatDoorZDb17
import Derived.Test.YtpcapmdfjmpdiaaGreatDoorZPb17
namespace Go.Proofs.YtpcapmdfjmpdiaaGreatDoor
open Go.RowKit Go.BigFrame NT
set_option linter.unusedVariables false
set_option linter.unusedSimpArgs false
set_option maxRecDepth 100000

abbrev zSV : Value := .agg #[.int .i64 0, .string ⟨#[]⟩, .string ⟨#[]⟩, .string ⟨#[]⟩]
theorem bel3_16 (w : World) (a b c : Obj) : Bel w (((w.alloc a).alloc b).alloc c) := ((Bel.alloc _ _).trans (Bel.alloc _ _)).trans (Bel.alloc _ _)
theorem blk_at2_16 (w : World) (a b : Obj) {T : TypeId} (L : List Value) : Blk (((w.alloc a).alloc b).alloc (.cells L.toArray T)) (w.heap.size + 1 + 1) T L := by
  have := blk_at1h (w.alloc a) b T L
  rwa [show (w.alloc a).heap.size = w.heap.size + 1 by simp] at this
set_option maxHeartbeats 6400000 in
theorem fail_c (x : NT) (k : Int) (w : World) : Calls Tryz.prog 107 #[nV x, .int .i64 k] w (PB zSV x.a k w) := by
  have HB0 := Lib.hid ((Bel.alloc w (.cells #[.int .i64 x.k, .int .i64 x.a, .string x.s, .string x.p, .bool x.h, .bool x.e, .slice x.A x.b.length x.c, .slice x.B x.l.length x.d] 69)).trans (Bel.alloc (w.alloc (.cells #[.int .i64 x.k, .int .i64 x.a, .string x.s, .string x.p, .bool x.h, .bool x.e, .slice x.A x.b.length x.c, .slice x.B x.l.length x.d] 69)) (.cells #[.int .i64 0, .string ⟨#[]⟩, .string ⟨#[]⟩, .string ⟨#[]⟩] 74)))
  have HN := Lib.hid ((show Blk (w.alloc (.cells #[.int .i64 x.k, .int .i64 x.a, .string x.s, .string x.p, .bool x.h, .bool x.e, .slice x.A x.b.length x.c, .slice x.B x.l.length x.d] 69)) w.heap.size 69 x.cs from Blk.new w 69 x.cs).alloc (.cells #[.int .i64 0, .string ⟨#[]⟩, .string ⟨#[]⟩, .string ⟨#[]⟩] 74))
  have HR := Lib.hid (blk_at1h w (.cells #[.int .i64 x.k, .int .i64 x.a, .string x.s, .string x.p, .bool x.h, .bool x.e, .slice x.A x.b.length x.c, .slice x.B x.l.length x.d] 69) 74 [.int .i64 0, .string ⟨#[]⟩, .string ⟨#[]⟩, .string ⟨#[]⟩])
  go_enter Tryz.func107, Tryz.ntmps107
  go_wp2_with fail
  refine region_begin (T := [w.heap.size + 1]) (by kernel_rfl) ?_
  have HBd := Lib.hid (HB0.out.trans (Bel.drew _))
  have HNd := Lib.hid HN.out.drew
  have HRd := Lib.hid HR.out.drew
  generalize (World.alloc _ (.cells #[.int .i64 0, .string ⟨#[]⟩, .string ⟨#[]⟩, .string ⟨#[]⟩] 74)).drew = W at HBd HNd HRd ⊢
  have c1 : ∀ X : Later [w.heap.size + 1] W, X.w.cell? ⟨w.heap.size, 1, none⟩ = some (.int .i64 x.a) := fun X => (HNd.out.only X.h (by simp)).cell 1
  refine region_seg [false, true, true, true] 4 (by kernel_rfl) (by kernel_rfl) (by kernel_rfl) rfl (fun _ _ d _ _ h => by cases d <;> exact h) ?_
  repeat (first | with_reducible refine wpMask_pass ?_ | (refine wpMask_want (by rfl) (fun K hK => ?_); go_big_quiet_op; refine hK _ ?_; clear hK K))
  with_reducible refine wpMask_nil ?_
  refine region_make 0 (v := zSV) (w1 := W) (by kernel_rfl) rfl (by rfl) (by go_simp) (Only.refl _ _) ?_
  simp only [List.getElem_toArray, List.getElem_cons_zero, List.getElem_cons_succ, Act.put, List.setIfInBounds_toArray, List.set_cons_zero, List.set_cons_succ]
  obtain ⟨k0, k1, k2, k3⟩ := cells4 HRd.out
  obtain ⟨y0, y1, y2, y3⟩ := frees4 HRd.out
  have hO := only4p W (w.heap.size + 1) (.int .i64 0) (.string ⟨#[]⟩) (.string ⟨#[]⟩) (.string ⟨#[]⟩)
  have hK := (((HRd.out.set_ 0 (.int .i64 0)).set_ 1 (.string ⟨#[]⟩)).set_ 2 (.string ⟨#[]⟩)).set_ 3 (.string ⟨#[]⟩)
  simp only [List.set_cons_succ, List.set_cons_zero] at hK
  have HK := Lib.hid hK
  have HB4 := Lib.hid (bel_on1 HBd.out hO (by omega))
  refine region_store 4 (w1 := ((((W.setCell ⟨w.heap.size + 1, 0, none⟩ (.int .i64 0)).setCell ⟨w.heap.size + 1, 1, none⟩ (.string ⟨#[]⟩)).setCell ⟨w.heap.size + 1, 2, none⟩ (.string ⟨#[]⟩)).setCell ⟨w.heap.size + 1, 3, none⟩ (.string ⟨#[]⟩))) (by kernel_rfl) rfl (by rfl) (by go_simp) hO ?_
  simp only [List.getElem_toArray, List.getElem_cons_zero, List.getElem_cons_succ, Act.put, List.setIfInBounds_toArray, List.set_cons_zero, List.set_cons_succ]
  clear c1 k0 k1 k2 k3 y0 y1 y2 y3 hO hK
  generalize ((((W.setCell ⟨w.heap.size + 1, 0, none⟩ (.int .i64 0)).setCell ⟨w.heap.size + 1, 1, none⟩ (.string ⟨#[]⟩)).setCell ⟨w.heap.size + 1, 2, none⟩ (.string ⟨#[]⟩)).setCell ⟨w.heap.size + 1, 3, none⟩ (.string ⟨#[]⟩)) = W4 at HK HB4 ⊢
  refine region_seg [false, false, false, false, false, true, true] 0 (by kernel_rfl) (by kernel_rfl) (by kernel_rfl) rfl (fun _ _ d _ _ h => by cases d <;> exact h) ?_
  repeat (first | with_reducible refine wpMask_pass ?_ | (refine wpMask_want (by rfl) (fun K hK => ?_); go_big_quiet_op; refine hK _ ?_; clear hK K))
  with_reducible refine wpMask_nil ?_
  refine region_end (by kernel_rfl) ?_
  go_wp2_with fail
  exact pb_blk rfl rfl rfl rfl HK.out HB4.out rfl
set_option maxHeartbeats 6400000 in
theorem call_c (s : HS) (x : NT) (w : World) : Calls Tryz.prog 85 #[.agg #[.int .i64 (s.c : Nat), .string (ofL s.n), .string (ofL s.a), .string (ofL s.p)], nV x] w
    (if eqH s (s0 0) = true then PB (.agg #[.int .i64 (s.c : Nat), .string (ofL s.n), .string (ofL s.a), .string (ofL s.p)]) 0 0 w else PB zSV x.a 15 w) := by
  have hgp := st_guard
  cases hq : eqH s (s0 0) with
  | true =>
    have hcmp : ∀ W, (binOp .neq 74 (.agg #[.int .i64 (s.c : Nat), .string (ofL s.n), .string (ofL s.a), .string (ofL s.p)]) (.agg #[.int .i64 0, .string ⟨#[]⟩, .string ⟨#[]⟩, .string ⟨#[]⟩])).run Tryz.prog W = .ok (.bool false) W := fun W => by have h := pst_neq s (s0 0) W; rw [hq] at h; exact h
    rw [if_pos rfl]
    clear hq
    go_enter Tryz.func85, Tryz.ntmps85
    go_wp2_with fail
    exact pb_blk rfl rfl rfl rfl (blk_at2_16 w _ _ [.int .i64 (s.c : Nat), .string (ofL s.n), .string (ofL s.a), .string (ofL s.p)]) (bel3_16 w _ _ _) rfl
  | false =>
    have hcmp : ∀ W, (binOp .neq 74 (.agg #[.int .i64 (s.c : Nat), .string (ofL s.n), .string (ofL s.a), .string (ofL s.p)]) (.agg #[.int .i64 0, .string ⟨#[]⟩, .string ⟨#[]⟩, .string ⟨#[]⟩])).run Tryz.prog W = .ok (.bool true) W := fun W => by have h := pst_neq s (s0 0) W; rw [hq] at h; exact h
    rw [if_neg (by decide)]
    clear hq
    have HR0 := Lib.hid (show Blk (((w.alloc (.cells #[.int .i64 (s.c : Nat), .string (ofL s.n), .string (ofL s.a), .string (ofL s.p)] 74)).alloc (.cells #[.int .i64 x.k, .int .i64 x.a, .string x.s, .string x.p, .bool x.h, .bool x.e, .slice x.A x.b.length x.c, .slice x.B x.l.length x.d] 69)).alloc (.cells #[.int .i64 0, .string ⟨#[]⟩, .string ⟨#[]⟩, .string ⟨#[]⟩] 74)) (w.heap.size + 1 + 1) 74 [.int .i64 0, .string ⟨#[]⟩, .string ⟨#[]⟩, .string ⟨#[]⟩] from blk_at2_16 w _ _ _)
    have HB0 := Lib.hid (show Bel w (((w.alloc (.cells #[.int .i64 (s.c : Nat), .string (ofL s.n), .string (ofL s.a), .string (ofL s.p)] 74)).alloc (.cells #[.int .i64 x.k, .int .i64 x.a, .string x.s, .string x.p, .bool x.h, .bool x.e, .slice x.A x.b.length x.c, .slice x.B x.l.length x.d] 69)).alloc (.cells #[.int .i64 0, .string ⟨#[]⟩, .string ⟨#[]⟩, .string ⟨#[]⟩] 74)) from bel3_16 w _ _ _)
    go_enter Tryz.func85, Tryz.ntmps85
    go_wp2_with (go_at_call 107; ((with_reducible refine (fail_c x 15 _).mono ?_); rintro e w2 ⟨rfl, hb⟩; have HR := Lib.hid (HR0.out.belh hb); have HB := Lib.hid (HB0.out.trans hb); clear hb; obtain ⟨k0, k1, k2, k3⟩ := cells4 HR.out; obtain ⟨y0, y1, y2, y3⟩ := frees4 HR.out))
    have hK := (((HR.out.set_ 0 (.int .i64 0)).set_ 1 (.string ⟨#[]⟩)).set_ 2 (.string ⟨#[]⟩)).set_ 3 (.string ⟨#[]⟩)
    simp only [List.set_cons_succ, List.set_cons_zero] at hK
    exact pb_blk rfl rfl rfl rfl hK (bel_on1 HB.out (only4p _ _ _ _ _ _) (by omega)) rfl
end Go.Proofs.YtpcapmdfjmpdiaaGreatDoor

namespace Go.Proofs.YtpcapmdfjmpdiaaGreatDoor
open Go.RowKit Go.BigFrame NT
set_option linter.unusedVariables false
set_option linter.unusedSimpArgs false
set_option maxRecDepth 100000

/-- One row more is appended, and the analysis holds it. -/
theorem Ev.push {B rr : Nat} {w W w6 : World} {A0 A A' : Option Addr} {n c m c' N : Nat} {es new : List Nat} (h : Ev B rr w A0 W A n c es) (hm : m = new.length) (hN : N = n + m) (hR : RowAt w6 3 A' N c' (vin es ++ vin new)) (hO : Only (rowT A) W w6)
    (hK : ∀ k, k ∈ rowT A' → k ∈ rowT A ∨ W.heap.size ≤ k) : Ev B rr w A0 (w6.setCell ⟨rr, 0, none⟩ (.slice A' N c')) A' N c' (es ++ new) := by
  have hX : Blk w6 rr 72 [.slice A n c] := h.an.blk.only hO (h.an.row.ne_blk h.an.blk (by decide))
  have hO7 : Only [rr] w6 (w6.setCell ⟨rr, 0, none⟩ (.slice A' N c')) := (Only.refl _ _).setCell (.inl (by simp)) _
  have hr := hR.ne_blk hX (by decide)
  refine ⟨⟨by have := hX.set_ 0 (.slice A' N c'); simpa using this, by rw [List.length_append, ← h.an.len, ← hm, hN], ?_, h.an.lo, fun k hk => ?_⟩, ?_, fun k hk => ?_⟩
  · rw [vin_append]
    exact hR.only hO7 (fun k hk hm => by rw [List.mem_singleton] at hm; subst hm; exact hr hk)
  · rcases hK k hk with h1 | h1
    · exact h.an.low k h1
    · exact Nat.le_trans h.an.size h1
  · refine (h.only.join hO (fun i hi => ?_)).setCell (.inl (by simp)) _
    exact (h.sub i hi).imp (fun h => List.mem_cons_of_mem _ h) id
  · rcases hK k hk with h1 | h1
    · exact h.sub k h1
    · exact .inr (Nat.le_trans h.only.size h1)
/-- The blocks that a function of a state and a node starts with: the state, the node, the result. -/
structure P30 (w w1 : World) (s : HS) (x : NT) : Prop where
  b0 : Blk w1 w.heap.size 74 (sC s)
  b1 : Blk w1 (w.heap.size + 1) 69 x.cs
  b2 : Blk w1 (w.heap.size + 1 + 1) 74 [.int .i64 0, .string ⟨#[]⟩, .string ⟨#[]⟩, .string ⟨#[]⟩]
abbrev w3p (w : World) (s : HS) (x : NT) : World := ((w.alloc (.cells #[.int .i64 (s.c : Nat), .string (ofL s.n), .string (ofL s.a), .string (ofL s.p)] 74)).alloc (.cells #[.int .i64 x.k, .int .i64 x.a, .string x.s, .string x.p, .bool x.h, .bool x.e, .slice x.A x.b.length x.c, .slice x.B x.l.length x.d] 69)).alloc (.cells #[.int .i64 0, .string ⟨#[]⟩, .string ⟨#[]⟩, .string ⟨#[]⟩] 74)
theorem p30_start (w : World) (s : HS) (x : NT) : P30 w (w3p w s x) s x :=
  ⟨((Blk.new w 74 (sC s)).alloc _).alloc _, (blk_at1h w _ 69 x.cs).alloc _, blk_at2_16 w _ _ _⟩
theorem P30.later {w w1 w2 : World} {s : HS} {x : NT} (h : P30 w w1 s x) (hb : Bel w1 w2) : P30 w w2 s x := ⟨h.b0.belh hb, h.b1.belh hb, h.b2.belh hb⟩
theorem P30.keep {B rr : Nat} {w w1 w2 : World} {A : Option Addr} {n c : Nat} {es : List Nat} {s : HS} {x : NT} (h : P30 w w1 s x) (hA : An B rr w1 A n c es) (hO : Only (rr :: rowT A) w1 w2) : P30 w w2 s x :=
  ⟨hA.keep hO h.b0 (by decide) (by decide), hA.keep hO h.b1 (by decide) (by decide), hA.keep hO h.b2 (by decide) (by decide)⟩
theorem P30.row {w w1 w2 : World} {A : Option Addr} {n c : Nat} {xs : List Value} {s : HS} {x : NT} (h : P30 w w1 s x) (hA : RowAt w1 3 A n c xs) (hO : Only (rowT A) w1 w2) : P30 w w2 s x :=
  ⟨h.b0.only hO (hA.ne_blk h.b0 (by decide)), h.b1.only hO (hA.ne_blk h.b1 (by decide)), h.b2.only hO (hA.ne_blk h.b2 (by decide))⟩
set_option maxHeartbeats 6400000 in
theorem print_c (s : HS) (hi : Inv s) (x : NT) (done : List Nat) (B rr : Nat) (A : Option Addr) (n c : Nat) (w : World) (hA : An B rr w A n c done) (hle : n + 1 ≤ 100000) :
    Calls Tryz.prog 84 #[.pointer (some ⟨rr, 0, none⟩), .agg #[.int .i64 (s.c : Nat), .string (ofL s.n), .string (ofL s.a), .string (ofL s.p)], nV x] w
      (PP (if (escS s).2 = true then .ok s [(escS s).1] else .no x.a 15) done B rr w A) := by
  have HES := Lib.hid (fun W => show Calls Tryz.prog 106 #[.agg #[.int .i64 (s.c : Nat), .string (ofL s.n), .string (ofL s.a), .string (ofL s.p)]] W _ from pesc_c s hi W)
  generalize escS s = q at HES ⊢
  obtain ⟨ke, be⟩ := q
  have HP0 := Lib.hid (p30_start w s x)
  have HE0 := Lib.hid ((Ev.refl hA).bel (show Bel w (w3p w s x) from bel3_16 w _ _ _))
  have hrr := hA.blk.lt
  obtain ⟨i0, ji, jz0, jz1, jz2⟩ := info_int16
  have HI0 := Lib.hid ji
  have HZ0 := Lib.hid jz0
  have HZ1 := Lib.hid jz1
  have HZ2 := Lib.hid jz2
  have HH1 := Lib.hid (show n + 1 ≤ maxLen by unfold maxLen; omega)
  have HH2 := Lib.hid (show (n + 1) * 8 ≤ 140737488355328 by omega)
  clear ji jz0 jz1 jz2 hle hA
  cases be
  case' false =>
    rw [if_neg (by simp)]
    go_enter Tryz.func84, Tryz.ntmps84
    go_wp2_with (first
      | (go_at_call 106; ((with_reducible refine (HES.out _).mono ?_); rintro e w2 ⟨rfl, hb⟩; have HP1 := Lib.hid (HP0.out.later hb); have HE1 := Lib.hid (HE0.out.bel hb); clear hb; obtain ⟨x0', x1', x2', x3', x4', x5', x6', x7'⟩ := cells8 HP1.out.b1))
      | (go_at_call 107; ((with_reducible refine (fail_c x 15 _).mono ?_); rintro e w3 ⟨rfl, hb⟩; have HP2 := Lib.hid (HP1.out.later hb); have HE2 := Lib.hid (HE1.out.bel hb); clear hb; obtain ⟨k0, k1, k2, k3⟩ := cells4 HP2.out.b2; obtain ⟨y0, y1, y2, y3⟩ := frees4 HP2.out.b2)))
    exact pp_set rfl rfl rfl rfl HP2.out.b2 (by omega) HE2.out (t := s0 0) rfl ⟨rfl, rfl, rfl, by decide⟩
  case' true =>
    rw [if_pos rfl]
    go_enter Tryz.func84, Tryz.ntmps84
    go_wp2_with (first
      | (go_at_call 106; ((with_reducible refine (HES.out _).mono ?_); rintro e w2 ⟨rfl, hb⟩; have HP1 := Lib.hid ((HP0.out.later hb).later (Bel.alloc w2 (.cells #[.int .i64 (ke : Nat)] 3))); have HE1 := Lib.hid ((HE0.out.bel hb).bel (Bel.alloc w2 (.cells #[.int .i64 (ke : Nat)] 3))); have g0 := (HE0.out.bel hb).an.blk.cell 0; have HRD := Lib.hid HE1.out.an.row; have HRX := Lib.hid (RowAt.reads (RowAt.of_blk (Blk.new w2 3 [.int .i64 (ke : Nat)]) (by show 1 ≤ maxLen; decide))); have HAX := Lib.hid HE1.out.an.blk; have HNX := Lib.hid (HE1.out.an.row.ne_blk HE1.out.an.blk (by decide)); clear hb))
      | ((with_reducible refine wp_rowAppend rfl (.tmp 27) (.tmp 29) 42 rfl 3 i0 _ 8 Tryz.underlying42 HI0.out HZ0.out HZ1.out HZ2.out rfl A n c (vin done) rfl HRD.out _ (some ⟨w2.heap.size, 0, none⟩) 1 1 (vin [ke]) rfl HRX.out (vin_one _) HH1.out HH2.out (n + 1) rfl ?_); intro A' c' w6 HR6 hO6 HK6; have HE6 := Lib.hid (Ev.push HE1.out (new := [ke]) rfl rfl HR6.out hO6 HK6.out); have HP6 := Lib.hid (HP1.out.row HRD.out hO6); have HX6 := Lib.hid (HAX.out.only hO6 HNX.out); have g6 := HX6.out.cell 0; have f6 := HX6.out.free 0; obtain ⟨k0, k1, k2, k3⟩ := cells4 HP6.out.b2; obtain ⟨y0, y1, y2, y3⟩ := frees4 HP6.out.b2; obtain ⟨s0', s1', s2', s3'⟩ := cells4 HP6.out.b0))
    exact pp_set rfl rfl rfl rfl (HP6.out.b2.only ((Only.refl [rr] _).setCell (.inl (by simp)) _) (by simp; omega)) (by omega) HE6.out (t := s) rfl ⟨rfl, rfl, rfl, rfl⟩
end Go.Proofs.YtpcapmdfjmpdiaaGreatDoor

namespace Go.Proofs.YtpcapmdfjmpdiaaGreatDoor
open Go.RowKit Go.BigFrame NT
set_option linter.unusedVariables false
set_option linter.unusedSimpArgs false
set_option maxRecDepth 100000

/-- The blocks that block starts with: the state, the start, the node, the result. -/
structure P40 (w w1 : World) (s u : HS) (x : NT) : Prop where
  b0 : Blk w1 w.heap.size 74 (sC s)
  b1 : Blk w1 (w.heap.size + 1) 74 (sC u)
  b2 : Blk w1 (w.heap.size + 1 + 1) 69 x.cs
  b3 : Blk w1 (w.heap.size + 1 + 1 + 1) 74 [.int .i64 0, .string ⟨#[]⟩, .string ⟨#[]⟩, .string ⟨#[]⟩]
abbrev w4p (w : World) (s u : HS) (x : NT) : World := (((w.alloc (.cells #[.int .i64 (s.c : Nat), .string (ofL s.n), .string (ofL s.a), .string (ofL s.p)] 74)).alloc (.cells #[.int .i64 (u.c : Nat), .string (ofL u.n), .string (ofL u.a), .string (ofL u.p)] 74)).alloc (.cells #[.int .i64 x.k, .int .i64 x.a, .string x.s, .string x.p, .bool x.h, .bool x.e, .slice x.A x.b.length x.c, .slice x.B x.l.length x.d] 69)).alloc (.cells #[.int .i64 0, .string ⟨#[]⟩, .string ⟨#[]⟩, .string ⟨#[]⟩] 74)
theorem p40_start (w : World) (s u : HS) (x : NT) : P40 w (w4p w s u x) s u x := by
  refine ⟨(((Blk.new w 74 (sC s)).alloc _).alloc _).alloc _, ((blk_at1h w _ 74 (sC u)).alloc _).alloc _, (blk_at2_16 w _ _ (T := 69) x.cs).alloc _, ?_⟩
  have := blk_at2_16 (w.alloc (.cells #[.int .i64 (s.c : Nat), .string (ofL s.n), .string (ofL s.a), .string (ofL s.p)] 74)) (.cells #[.int .i64 (u.c : Nat), .string (ofL u.n), .string (ofL u.a), .string (ofL u.p)] 74) (.cells #[.int .i64 x.k, .int .i64 x.a, .string x.s, .string x.p, .bool x.h, .bool x.e, .slice x.A x.b.length x.c, .slice x.B x.l.length x.d] 69) (T := 74) [.int .i64 0, .string ⟨#[]⟩, .string ⟨#[]⟩, .string ⟨#[]⟩]
  rw [show (w.alloc (.cells #[.int .i64 (s.c : Nat), .string (ofL s.n), .string (ofL s.a), .string (ofL s.p)] 74)).heap.size = w.heap.size + 1 by simp] at this
  exact this
theorem P40.later {w w1 w2 : World} {s u : HS} {x : NT} (h : P40 w w1 s u x) (hb : Bel w1 w2) : P40 w w2 s u x := ⟨h.b0.belh hb, h.b1.belh hb, h.b2.belh hb, h.b3.belh hb⟩
theorem P40.keep {B rr : Nat} {w w1 w2 : World} {A : Option Addr} {n c : Nat} {es : List Nat} {s u : HS} {x : NT} (h : P40 w w1 s u x) (hA : An B rr w1 A n c es) (hO : Only (rr :: rowT A) w1 w2) : P40 w w2 s u x :=
  ⟨hA.keep hO h.b0 (by decide) (by decide), hA.keep hO h.b1 (by decide) (by decide), hA.keep hO h.b2 (by decide) (by decide), hA.keep hO h.b3 (by decide) (by decide)⟩
theorem bel4_16 (w : World) (a b c d : Obj) : Bel w ((((w.alloc a).alloc b).alloc c).alloc d) := (bel3_16 w a b c).trans (Bel.alloc _ _)
/-- The call of list for a block of nodes. -/
abbrev PLc (B rr : Nat) (w : World) (u : HS) (A : Option Addr) (c : Nat) (l : List NT) : Prop := ∀ W A1 n1 c1 done1, Below B w W → An B rr W A1 n1 c1 done1 → n1 + tots l ≤ 100000 →
  Calls Tryz.prog 31 #[.pointer (some ⟨rr, 0, none⟩), .agg #[.int .i64 (u.c : Nat), .string (ofL u.n), .string (ofL u.a), .string (ofL u.p)], .slice A l.length c] W (PP (listI u l) done1 B rr W A1)
set_option maxHeartbeats 6400000 in
theorem iblock_c (s u : HS) (x : NT) (done : List Nat) (B rr : Nat) (A : Option Addr) (n c : Nat) (w : World) (hA : An B rr w A n c done) (hle : n + tots x.b ≤ 100000) (hl : PLc B rr w u x.A x.c x.b) :
    Calls Tryz.prog 87 #[.pointer (some ⟨rr, 0, none⟩), .agg #[.int .i64 (s.c : Nat), .string (ofL s.n), .string (ofL s.a), .string (ofL s.p)], .agg #[.int .i64 (u.c : Nat), .string (ofL u.n), .string (ofL u.a), .string (ofL u.p)], nV x] w
      (PP ((listI u x.b).next fun s1 e1 => if eqH s1 u = true then .ok s e1 else .no x.a 16) done B rr w A) := by
  have HP0 := Lib.hid (p40_start w s u x)
  have HE0 := Lib.hid ((Ev.refl hA).bel (show Bel w (w4p w s u x) from bel4_16 w _ _ _ _))
  have HL := Lib.hid (hl (w4p w s u x) A n c done (HE0.out.below hA) HE0.out.an hle)
  have hrr := hA.blk.lt
  have hgp := st_guard
  clear hle hA hl
  cases hr : listI u x.b with
  | no a1 e1 =>
    rw [hr] at HL
    have he := listI_err hr
    have hk0 : (e1 : Int) ≠ 0 := by omega
    have hk1 : ((e1 : Int) != 0) = true := bne_iff_ne.2 hk0
    have HE := Lib.hid (show e1 ≠ 0 by omega)
    clear hr he
    rw [IR.next_no]
    go_enter Tryz.func87, Tryz.ntmps87
    go_wp2_with (go_at_call 31; ((with_reducible refine (HL.out).mono ?_); rintro e w2 ⟨t, a, k, A', n', c', es, rfl, hE, hQ⟩; obtain ⟨ht, rfl, rfl, hne⟩ := hQ.out; have HP2 := Lib.hid ((HP0.out.keep HE0.out.an hE.out.only).later (Bel.alloc w2 (.cells #[.int .i64 (t.c : Nat), .string (ofL t.n), .string (ofL t.a), .string (ofL t.p)] 74))); have HE2 := Lib.hid ((HE0.out.then hE.out).bel (Bel.alloc w2 (.cells #[.int .i64 (t.c : Nat), .string (ofL t.n), .string (ofL t.a), .string (ofL t.p)] 74))); clear hE hQ hne ht; obtain ⟨k0, k1, k2, k3⟩ := cells4 HP2.out.b3; obtain ⟨y0, y1, y2, y3⟩ := frees4 HP2.out.b3))
    refine pp_set rfl rfl rfl rfl HP2.out.b3 (by omega) HE2.out (t := s0 0) rfl ?_
    exact ⟨rfl, rfl, rfl, HE.out⟩
  | ok s1 es1 =>
    rw [hr] at HL
    rw [IR.next_ok]
    clear hr
    cases hq : eqH s1 u with
    | true =>
      have hcmp : ∀ W, (binOp .neq 74 (.agg #[.int .i64 (s1.c : Nat), .string (ofL s1.n), .string (ofL s1.a), .string (ofL s1.p)]) (.agg #[.int .i64 (u.c : Nat), .string (ofL u.n), .string (ofL u.a), .string (ofL u.p)])).run Tryz.prog W = .ok (.bool false) W := fun W => by have h := pst_neq s1 u W; rw [hq] at h; exact h
      rw [if_pos rfl]
      clear hq
      go_enter Tryz.func87, Tryz.ntmps87
      go_wp2_with (go_at_call 31; ((with_reducible refine (HL.out).mono ?_); rintro e w2 ⟨t, a, k, A', n', c', es, rfl, hE, hQ⟩; obtain ⟨rfl, rfl, rfl, rfl⟩ := hQ.out; have HP2 := Lib.hid ((HP0.out.keep HE0.out.an hE.out.only).later (Bel.alloc w2 (.cells #[.int .i64 (t.c : Nat), .string (ofL t.n), .string (ofL t.a), .string (ofL t.p)] 74))); have HE2 := Lib.hid ((HE0.out.then hE.out).bel (Bel.alloc w2 (.cells #[.int .i64 (t.c : Nat), .string (ofL t.n), .string (ofL t.a), .string (ofL t.p)] 74))); clear hE hQ; obtain ⟨k0, k1, k2, k3⟩ := cells4 HP2.out.b3; obtain ⟨y0, y1, y2, y3⟩ := frees4 HP2.out.b3; obtain ⟨s0', s1', s2', s3'⟩ := cells4 HP2.out.b0; obtain ⟨u0', u1', u2', u3'⟩ := cells4 HP2.out.b1))
      refine pp_set rfl rfl rfl rfl HP2.out.b3 (by omega) HE2.out (t := s) rfl ?_
      exact ⟨rfl, rfl, rfl, rfl⟩
    | false =>
      have hcmp : ∀ W, (binOp .neq 74 (.agg #[.int .i64 (s1.c : Nat), .string (ofL s1.n), .string (ofL s1.a), .string (ofL s1.p)]) (.agg #[.int .i64 (u.c : Nat), .string (ofL u.n), .string (ofL u.a), .string (ofL u.p)])).run Tryz.prog W = .ok (.bool true) W := fun W => by have h := pst_neq s1 u W; rw [hq] at h; exact h
      rw [if_neg (by decide)]
      clear hq
      go_enter Tryz.func87, Tryz.ntmps87
      go_wp2_with (first
        | (go_at_call 31; ((with_reducible refine (HL.out).mono ?_); rintro e w2 ⟨t, a, k, A', n', c', es, rfl, hE, hQ⟩; obtain ⟨rfl, rfl, rfl, rfl⟩ := hQ.out; have HP2 := Lib.hid ((HP0.out.keep HE0.out.an hE.out.only).later (Bel.alloc w2 (.cells #[.int .i64 (t.c : Nat), .string (ofL t.n), .string (ofL t.a), .string (ofL t.p)] 74))); have HE2 := Lib.hid ((HE0.out.then hE.out).bel (Bel.alloc w2 (.cells #[.int .i64 (t.c : Nat), .string (ofL t.n), .string (ofL t.a), .string (ofL t.p)] 74))); clear hE hQ; obtain ⟨u0', u1', u2', u3'⟩ := cells4 HP2.out.b1; obtain ⟨x0', x1', x2', x3', x4', x5', x6', x7'⟩ := cells8 HP2.out.b2))
        | (go_at_call 107; ((with_reducible refine (fail_c x 16 _).mono ?_); rintro e w3 ⟨rfl, hb⟩; have HP3 := Lib.hid (HP2.out.later hb); have HE3 := Lib.hid (HE2.out.bel hb); clear hb; obtain ⟨k0, k1, k2, k3⟩ := cells4 HP3.out.b3; obtain ⟨y0, y1, y2, y3⟩ := frees4 HP3.out.b3)))
      refine pp_set rfl rfl rfl rfl HP3.out.b3 (by omega) HE3.out (t := s0 0) rfl ?_
      exact ⟨rfl, rfl, rfl, by decide⟩
end Go.Proofs.YtpcapmdfjmpdiaaGreatDoor

namespace Go.Proofs.YtpcapmdfjmpdiaaGreatDoor
open Go.RowKit Go.BigFrame NT
set_option linter.unusedVariables false
set_option linter.unusedSimpArgs false
set_option maxRecDepth 100000

/-- A row of instructions that may be read: its cells lie behind its address, in whatever later world. -/
def Xr (w : World) (A : Option Addr) (c : Nat) (l : List XI) : Prop := l.length ≤ c ∧ ∀ i x, l[i]? = some x → ∃ g o, A = some ⟨g, o, none⟩ ∧ ∀ W, Bel w W → ∀ j u, x.cs[j]? = some u → W.cell? ⟨g, o + i * 6 + j, none⟩ = some u
theorem Xr.bel {w w' : World} {A : Option Addr} {c : Nat} {l : List XI} (h : Xr w A c l) (hb : Bel w w') : Xr w' A c l := ⟨h.1, fun i x hx => by
  obtain ⟨g, o, e, hc⟩ := h.2 i x hx
  exact ⟨g, o, e, fun W hW => hc W (hb.trans hW)⟩⟩
theorem Xr.of_krow {w : World} {A : Option Addr} {c : Nat} {l : List IN} (h : KRow w 31 6 IN.cs A c l) : Xr w A c (l.map IN.x) := by
  refine ⟨by rw [List.length_map]; exact h.le, fun i x hx => ?_⟩
  rw [List.getElem?_map] at hx
  cases hl : l[i]? with
  | none => rw [hl] at hx; cases hx
  | some y =>
    rw [hl] at hx
    injection hx with hx
    subst hx
    obtain ⟨g, o, rfl, hg, hc⟩ := h.at_ IN.cs_len hl (by decide)
    exact ⟨g, o, rfl, fun W hb j u hu => (hb.cell hg).trans (hc j u hu)⟩
end Go.Proofs.YtpcapmdfjmpdiaaGreatDoor

namespace Go.Proofs.YtpcapmdfjmpdiaaGreatDoor
open Go.RowKit Go.BigFrame NT
set_option linter.unusedVariables false
set_option linter.unusedSimpArgs false
set_option maxRecDepth 100000
attribute [local go_sem ↓] sliced_cut

theorem node_cells {w : World} {g : Nat} {x : NT} (h : Blk w g 69 x.cs) :
    w.cell? ⟨g, 0, none⟩ = some (.int .i64 x.k) ∧ w.cell? ⟨g, 1, none⟩ = some (.int .i64 x.a) ∧ w.cell? ⟨g, 2, none⟩ = some (.string x.s) ∧ w.cell? ⟨g, 3, none⟩ = some (.string x.p) ∧ w.cell? ⟨g, 4, none⟩ = some (.bool x.h) ∧ w.cell? ⟨g, 5, none⟩ = some (.bool x.e) ∧ w.cell? ⟨g, 6, none⟩ = some (.slice x.A x.b.length x.c) ∧ w.cell? ⟨g, 7, none⟩ = some (.slice x.B x.l.length x.d) :=
  ⟨h.cell 0, h.cell 1, h.cell 2, h.cell 3, h.cell 4, h.cell 5, h.cell 6, h.cell 7⟩
/-- What node and list answer. -/
abbrev NdP (Q : Nat → Prop) (rr : Nat) (w : World) (v : AV) (code : CE) (ks : List CK) : Ending → World → Prop := AsP Q rr w v (.tuple #[]) (v.L ++ code.1) code.2 (v.ks ++ ks)
abbrev PnC (Q : Nat → Prop) (rr : Nat) (w : World) (v : AV) (x : NT) : Prop := Calls Tryz.prog 92 #[.pointer (some ⟨rr, 0, none⟩), nV17 x] w (NdP Q rr w v (nodeC Z0 v.L.length v.es x) (nodeK v.L.length x))
/-- One step after the other. -/
theorem asP_then {Q : Nat → Prop} {rr : Nat} {w W W' : World} {v0 v : AV} {r : Value} {L : List IN} {es : List Nat} {ks : List CK} {e : Ending} (h : Ev17 Q rr w v0 W v) (hM : v.M = v0.M) (h2 : AsP Q rr W v r L es ks e W') : AsP Q rr w v0 r L es ks e W' := by
  obtain ⟨h3, v', hE, hS⟩ := h2
  exact ⟨h3, v', Lib.hid (h.trans hE.out), Lib.hid ⟨hS.out.L, hS.out.es, hS.out.ks, hS.out.M.trans hM⟩⟩
section
variable {Q : Nat → Prop} {rr : Nat} {w : World} {v : AV}
theorem as_n (h : As Q rr w v) (x : NT) : As Q rr (wN w x) v := h.bel (Bel.alloc _ _)
theorem ev_n (h : As Q rr w v) (x : NT) : Ev17 Q rr w v (wN w x) v := (Ev17.refl h).bel (Bel.alloc _ _)
set_option maxHeartbeats 3200000 in
theorem pn_text (x : NT) (h : As Q rr w v) (hk : x.k = 0) (hle : v.L.length + 1 ≤ 100000) : PnC Q rr w v x := by
  unfold PnC
  rw [nodeC_eq, if_pos hk, nodeK_eq, if_neg (by omega), if_neg (by omega), if_neg (by omega)]
  have k0 : (x.k == 0) = true := by rw [hk]; rfl
  obtain ⟨x0, x1, x2, x3, x4, x5, x6, x7⟩ := node_cells (show Blk (wN w x) w.heap.size 69 x.cs from Blk.new w 69 x.cs)
  have HAD := Lib.hid (show Calls Tryz.prog 67 #[.pointer (some ⟨rr, 0, none⟩), .agg #[.int .i64 0, .string x.s, .string ⟨#[]⟩, .bool false, .int .i64 0, .int .i64 0]] (wN w x) _ from add_c (as_n h x) ⟨0, x.s, eB, false, 0, 0⟩ hle)
  have HE := Lib.hid (ev_n h x)
  clear h hk hle
  go_enter Tryz.func92, Tryz.ntmps92
  go_wp2_with (go_at_call 67; ((with_reducible refine HAD.out.mono ?_); rintro e w2 ⟨rfl, v', hE, hS⟩))
  go_end0
  exact asP_then HE.out rfl ⟨rfl, v', hE, Lib.hid ⟨hS.out.L, hS.out.es, by rw [hS.out.ks, List.append_nil], hS.out.M⟩⟩
set_option maxHeartbeats 3200000 in
theorem pn_flush (x : NT) (h : As Q rr w v) (hk : x.k = 5) (hle : v.L.length + 1 ≤ 100000) : PnC Q rr w v x := by
  unfold PnC
  rw [nodeC_eq, if_neg (by omega), if_neg (by omega), if_neg (by omega), if_neg (by omega), if_neg (by omega), if_pos hk, nodeK_eq, if_neg (by omega), if_neg (by omega), if_neg (by omega)]
  have k0 : (x.k == 0) = false := by rw [hk]; rfl
  have k1 : (x.k == 1) = false := by rw [hk]; rfl
  have k2 : (x.k == 2) = false := by rw [hk]; rfl
  have k3 : (x.k == 3) = false := by rw [hk]; rfl
  have k4 : (x.k == 4) = false := by rw [hk]; rfl
  have k5 : (x.k == 5) = true := by rw [hk]; rfl
  obtain ⟨x0, x1, x2, x3, x4, x5, x6, x7⟩ := node_cells (show Blk (wN w x) w.heap.size 69 x.cs from Blk.new w 69 x.cs)
  have HAD := Lib.hid (show Calls Tryz.prog 67 #[.pointer (some ⟨rr, 0, none⟩), .agg #[.int .i64 8, .string ⟨#[]⟩, .string ⟨#[]⟩, .bool false, .int .i64 0, .int .i64 0]] (wN w x) _ from add_c (as_n h x) ⟨8, eB, eB, false, 0, 0⟩ hle)
  have HE := Lib.hid (ev_n h x)
  clear h hk hle
  go_enter Tryz.func92, Tryz.ntmps92
  go_wp2_with (go_at_call 67; ((with_reducible refine HAD.out.mono ?_); rintro e w2 ⟨rfl, v', hE, hS⟩))
  go_end0
  exact asP_then HE.out rfl ⟨rfl, v', hE, Lib.hid ⟨hS.out.L, hS.out.es, by rw [hS.out.ks, List.append_nil], hS.out.M⟩⟩
set_option maxHeartbeats 3200000 in
theorem pn_other (x : NT) (h : As Q rr w v) (hk : x.k ≠ 0 ∧ x.k ≠ 1 ∧ x.k ≠ 2 ∧ x.k ≠ 3 ∧ x.k ≠ 4 ∧ x.k ≠ 5) : PnC Q rr w v x := by
  unfold PnC
  rw [nodeC_eq, if_neg (by omega), if_neg (by omega), if_neg (by omega), if_neg (by omega), if_neg (by omega), if_neg (by omega), nodeK_eq, if_neg (by omega), if_neg (by omega), if_neg (by omega)]
  have k0 : (x.k == 0) = false := by have := hk; simp only [beq_eq_false_iff_ne]; omega
  have k1 : (x.k == 1) = false := by have := hk; simp only [beq_eq_false_iff_ne]; omega
  have k2 : (x.k == 2) = false := by have := hk; simp only [beq_eq_false_iff_ne]; omega
  have k3 : (x.k == 3) = false := by have := hk; simp only [beq_eq_false_iff_ne]; omega
  have k4 : (x.k == 4) = false := by have := hk; simp only [beq_eq_false_iff_ne]; omega
  have k5 : (x.k == 5) = false := by have := hk; simp only [beq_eq_false_iff_ne]; omega
  obtain ⟨x0, x1, x2, x3, x4, x5, x6, x7⟩ := node_cells (show Blk (wN w x) w.heap.size 69 x.cs from Blk.new w 69 x.cs)
  have HE := Lib.hid (ev_n h x)
  clear h hk
  go_enter Tryz.func92, Tryz.ntmps92
  go_wp2_with fail
  go_end0
  exact ⟨rfl, v, HE, Lib.hid ⟨by rw [List.append_nil], rfl, by rw [List.append_nil], rfl⟩⟩
end
end Go.Proofs.YtpcapmdfjmpdiaaGreatDoor
