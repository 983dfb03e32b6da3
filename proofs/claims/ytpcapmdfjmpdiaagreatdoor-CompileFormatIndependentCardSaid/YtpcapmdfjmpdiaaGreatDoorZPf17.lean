/-
  The program of layer 16: node and list.
  The reference of layer 16: Infer.
  The program of layer 17: node for an If (the jump behind the Body is set by a deferred call).
-/
import Derived.Test.YtpcapmdfjmpdiaaGreatDoorZShaped11
import Derived.Test.YtpcapmdfjmpdiaaGreatDoorZRl16
namespace Go.Proofs.YtpcapmdfjmpdiaaGreatDoor
open Go.RowKit Go.BigFrame NT
set_option linter.unusedVariables false
set_option linter.unusedSimpArgs false
set_option maxRecDepth 100000

theorem PLc.mono {B rr : Nat} {w w1 : World} {u : HS} {A : Option Addr} {c : Nat} {l : List NT} (h : PLc B rr w u A c l) (hb : Below B w w1) : PLc B rr w1 u A c l := fun W A1 n1 c1 done1 hW => h W A1 n1 c1 done1 (hb.trans hW)
theorem NT.In.siB {w : World} {Q : Nat → Prop} {t : NT} (h : t.In w Q) : t.s.size ≤ 140737488351232 := by cases h; assumption
def PM (x : NT) : Prop := ∀ (B rr : Nat) (w : World) (A : Option Addr) (n c : Nat) (done : List Nat) (s : HS), Inv s → x.In w (· < B) → An B rr w A n c done → n + x.tot ≤ 100000 →
  Calls Tryz.prog 56 #[.pointer (some ⟨rr, 0, none⟩), .agg #[.int .i64 (s.c : Nat), .string (ofL s.n), .string (ofL s.a), .string (ofL s.p)], nV x] w (PP (nodeI s x) done B rr w A)
set_option maxHeartbeats 6400000 in
theorem pnode_text (s : HS) (hi : Inv s) (x : NT) (done : List Nat) (B rr : Nat) (A : Option Addr) (n c : Nat) (w : World) (hA : An B rr w A n c done) (hk : x.k = 0) (hs : x.s.size ≤ 140737488351232) :
    Calls Tryz.prog 56 #[.pointer (some ⟨rr, 0, none⟩), .agg #[.int .i64 (s.c : Nat), .string (ofL s.n), .string (ofL s.a), .string (ofL s.p)], nV x] w (PP (nodeI s x) done B rr w A) := by
  have k0' : (x.k == 0) = true := by rw [hk]; rfl
  rw [nodeI_eq, if_pos hk]
  obtain ⟨T, hT⟩ : ∃ T, T = runS s x.s.data.toList := ⟨_, rfl⟩
  rw [← hT]
  have HRU := Lib.hid (fun W => show Calls Tryz.prog 83 #[.agg #[.int .i64 (s.c : Nat), .string (ofL s.n), .string (ofL s.a), .string (ofL s.p)], .string x.s] W (SvV (.agg #[.int .i64 (T.c : Nat), .string (ofL T.n), .string (ofL T.a), .string (ofL T.p)]) W) by rw [hT]; exact prunB_c s hi x.s hs W)
  have HP0 := Lib.hid (p30_start w s x)
  have HE0 := Lib.hid ((Ev.refl hA).bel (show Bel w (w3p w s x) from bel3_16 w _ _ _))
  have hrr := hA.blk.lt
  clear hT hi hk hA hs
  go_enter Tryz.func56, Tryz.ntmps56
  go_wp2_with (go_at_call 83; ((with_reducible refine (HRU.out _).mono ?_); rintro e w2 ⟨rfl, hb⟩; have HP2 := Lib.hid (HP0.out.later hb); have HE2 := Lib.hid (HE0.out.bel hb); clear hb; obtain ⟨k0, k1, k2, k3⟩ := cells4 HP2.out.b2; obtain ⟨y0, y1, y2, y3⟩ := frees4 HP2.out.b2))
  refine pp_set rfl rfl rfl rfl HP2.out.b2 (by omega) HE2.out (t := T) rfl ?_
  exact ⟨rfl, rfl, rfl, by rw [List.append_nil]⟩
set_option maxHeartbeats 6400000 in
theorem pnode_print (s : HS) (hi : Inv s) (x : NT) (done : List Nat) (B rr : Nat) (A : Option Addr) (n c : Nat) (w : World) (hA : An B rr w A n c done) (hk : x.k = 1) (hle : n + 1 ≤ 100000) :
    Calls Tryz.prog 56 #[.pointer (some ⟨rr, 0, none⟩), .agg #[.int .i64 (s.c : Nat), .string (ofL s.n), .string (ofL s.a), .string (ofL s.p)], nV x] w (PP (nodeI s x) done B rr w A) := by
  have k0' : (x.k == 0) = false := by rw [hk]; rfl
  have k1' : (x.k == 1) = true := by rw [hk]; rfl
  rw [nodeI_eq, if_neg (by rw [hk]; decide), if_pos hk]
  have HP0 := Lib.hid (p30_start w s x)
  have HE0 := Lib.hid ((Ev.refl hA).bel (show Bel w (w3p w s x) from bel3_16 w _ _ _))
  have hrr := hA.blk.lt
  have HC := Lib.hid (print_c s hi x done B rr A n c (w3p w s x) HE0.out.an hle)
  generalize (if (escS s).2 = true then IR.ok s [(escS s).1] else IR.no x.a 15) = r at HC ⊢
  clear hi hk hA hle
  go_enter Tryz.func56, Tryz.ntmps56
  go_wp2_with (go_at_call 84; ((with_reducible refine (HC.out).mono ?_); rintro e w2 ⟨t, a, k, A', n', c', es, rfl, hE, hQ⟩; have HP2 := Lib.hid (HP0.out.keep HE0.out.an hE.out.only); have HE2 := Lib.hid (HE0.out.then hE.out); clear hE; obtain ⟨k0, k1, k2, k3⟩ := cells4 HP2.out.b2; obtain ⟨y0, y1, y2, y3⟩ := frees4 HP2.out.b2))
  refine pp_set rfl rfl rfl rfl HP2.out.b2 (by omega) HE2.out (t := t) rfl ?_
  exact hQ.out
set_option maxHeartbeats 6400000 in
theorem pnode_if (s : HS) (hi : Inv s) (x : NT) (done : List Nat) (B rr : Nat) (A : Option Addr) (n c : Nat) (w : World) (hA : An B rr w A n c done) (hk : x.k = 2) (hle : n + tots x.b + tots x.l ≤ 100000) (hb : PLc B rr w s x.A x.c x.b) (hl : PLc B rr w s x.B x.d x.l) :
    Calls Tryz.prog 56 #[.pointer (some ⟨rr, 0, none⟩), .agg #[.int .i64 (s.c : Nat), .string (ofL s.n), .string (ofL s.a), .string (ofL s.p)], nV x] w (PP (nodeI s x) done B rr w A) := by
  have k0' : (x.k == 0) = false := by rw [hk]; rfl
  have k1' : (x.k == 1) = false := by rw [hk]; rfl
  have k4' : (x.k == 4) = false := by rw [hk]; rfl
  have k2' : (x.k == 2) = true := by rw [hk]; rfl
  rw [nodeI_eq, if_neg (by rw [hk]; decide), if_neg (by rw [hk]; decide), if_pos hk]
  have HP0 := Lib.hid (p30_start w s x)
  have HE0 := Lib.hid ((Ev.refl hA).bel (show Bel w (w3p w s x) from bel3_16 w _ _ _))
  have hrr := hA.blk.lt
  have HC := Lib.hid (branches_c s x done B rr A n c (w3p w s x) HE0.out.an hle (hb.mono (HE0.out.below hA)) (hl.mono (HE0.out.below hA)))
  clear hi hk hA hle hb hl
  go_enter Tryz.func56, Tryz.ntmps56
  go_wp2_with (go_at_call 86; ((with_reducible refine (HC.out).mono ?_); rintro e w2 ⟨t, a, k, A', n', c', es, rfl, hE, hQ⟩; have HP2 := Lib.hid (HP0.out.keep HE0.out.an hE.out.only); have HE2 := Lib.hid (HE0.out.then hE.out); clear hE; obtain ⟨k0, k1, k2, k3⟩ := cells4 HP2.out.b2; obtain ⟨y0, y1, y2, y3⟩ := frees4 HP2.out.b2))
  refine pp_set rfl rfl rfl rfl HP2.out.b2 (by omega) HE2.out (t := t) rfl ?_
  exact hQ.out
set_option maxHeartbeats 6400000 in
theorem pnode_range (s : HS) (hi : Inv s) (x : NT) (done : List Nat) (B rr : Nat) (A : Option Addr) (n c : Nat) (w : World) (hA : An B rr w A n c done) (hk : x.k = 3) (hle : n + tots x.b ≤ 100000) (hb : PLc B rr w s x.A x.c x.b) :
    Calls Tryz.prog 56 #[.pointer (some ⟨rr, 0, none⟩), .agg #[.int .i64 (s.c : Nat), .string (ofL s.n), .string (ofL s.a), .string (ofL s.p)], nV x] w (PP (nodeI s x) done B rr w A) := by
  have k0' : (x.k == 0) = false := by rw [hk]; rfl
  have k1' : (x.k == 1) = false := by rw [hk]; rfl
  have k4' : (x.k == 4) = false := by rw [hk]; rfl
  have k2' : (x.k == 2) = false := by rw [hk]; rfl
  have k3' : (x.k == 3) = true := by rw [hk]; rfl
  rw [nodeI_eq, if_neg (by rw [hk]; decide), if_neg (by rw [hk]; decide), if_neg (by rw [hk]; decide), if_pos hk]
  have HP0 := Lib.hid (p30_start w s x)
  have HE0 := Lib.hid ((Ev.refl hA).bel (show Bel w (w3p w s x) from bel3_16 w _ _ _))
  have hrr := hA.blk.lt
  have HC := Lib.hid (iblock_c s s x done B rr A n c (w3p w s x) HE0.out.an hle (hb.mono (HE0.out.below hA)))
  clear hi hk hA hle hb
  go_enter Tryz.func56, Tryz.ntmps56
  go_wp2_with (go_at_call 87; ((with_reducible refine (HC.out).mono ?_); rintro e w2 ⟨t, a, k, A', n', c', es, rfl, hE, hQ⟩; have HP2 := Lib.hid (HP0.out.keep HE0.out.an hE.out.only); have HE2 := Lib.hid (HE0.out.then hE.out); clear hE; obtain ⟨k0, k1, k2, k3⟩ := cells4 HP2.out.b2; obtain ⟨y0, y1, y2, y3⟩ := frees4 HP2.out.b2))
  refine pp_set rfl rfl rfl rfl HP2.out.b2 (by omega) HE2.out (t := t) rfl ?_
  exact hQ.out
set_option maxHeartbeats 6400000 in
theorem inode_define (s : HS) (hi : Inv s) (x : NT) (done : List Nat) (B rr : Nat) (A : Option Addr) (n c : Nat) (w : World) (hA : An B rr w A n c done) (hk : x.k = 6) (hle : n + tots x.b ≤ 100000) (hb : PLc B rr w (s0 0) x.A x.c x.b) :
    Calls Tryz.prog 56 #[.pointer (some ⟨rr, 0, none⟩), .agg #[.int .i64 (s.c : Nat), .string (ofL s.n), .string (ofL s.a), .string (ofL s.p)], nV x] w (PP (nodeI s x) done B rr w A) := by
  have k0' : (x.k == 0) = false := by rw [hk]; rfl
  have k1' : (x.k == 1) = false := by rw [hk]; rfl
  have k4' : (x.k == 4) = false := by rw [hk]; rfl
  have k2' : (x.k == 2) = false := by rw [hk]; rfl
  have k3' : (x.k == 3) = false := by rw [hk]; rfl
  have k6' : (x.k == 6) = true := by rw [hk]; rfl
  rw [nodeI_eq, if_neg (by rw [hk]; decide), if_neg (by rw [hk]; decide), if_neg (by rw [hk]; decide), if_neg (by rw [hk]; decide), if_neg (by rw [hk]; decide), if_pos hk]
  have HP0 := Lib.hid (p30_start w s x)
  have HE0 := Lib.hid ((Ev.refl hA).bel (show Bel w (w3p w s x) from bel3_16 w _ _ _))
  have hrr := hA.blk.lt
  have HC := Lib.hid (show Calls Tryz.prog 87 #[.pointer (some ⟨rr, 0, none⟩), .agg #[.int .i64 (s.c : Nat), .string (ofL s.n), .string (ofL s.a), .string (ofL s.p)], .agg #[.int .i64 0, .string ⟨#[]⟩, .string ⟨#[]⟩, .string ⟨#[]⟩], nV x] (w3p w s x) _ from iblock_c s (s0 0) x done B rr A n c (w3p w s x) HE0.out.an hle (hb.mono (HE0.out.below hA)))
  clear hi hk hA hle hb
  go_enter Tryz.func56, Tryz.ntmps56
  go_wp2_with (go_at_call 87; ((with_reducible refine (HC.out).mono ?_); rintro e w2 ⟨t, a, k, A', n', c', es, rfl, hE, hQ⟩; have HP2 := Lib.hid (HP0.out.keep HE0.out.an hE.out.only); have HE2 := Lib.hid (HE0.out.then hE.out); clear hE; obtain ⟨k0, k1, k2, k3⟩ := cells4 HP2.out.b2; obtain ⟨y0, y1, y2, y3⟩ := frees4 HP2.out.b2))
  refine pp_set rfl rfl rfl rfl HP2.out.b2 (by omega) HE2.out (t := t) rfl ?_
  exact hQ.out
set_option maxHeartbeats 6400000 in
theorem pnode_call (s : HS) (hi : Inv s) (x : NT) (done : List Nat) (B rr : Nat) (A : Option Addr) (n c : Nat) (w : World) (hA : An B rr w A n c done) (hk : x.k = 4) :
    Calls Tryz.prog 56 #[.pointer (some ⟨rr, 0, none⟩), .agg #[.int .i64 (s.c : Nat), .string (ofL s.n), .string (ofL s.a), .string (ofL s.p)], nV x] w (PP (nodeI s x) done B rr w A) := by
  have k0' : (x.k == 0) = false := by rw [hk]; rfl
  have k1' : (x.k == 1) = false := by rw [hk]; rfl
  have k4' : (x.k == 4) = true := by rw [hk]; rfl
  rw [nodeI_eq, if_neg (by rw [hk]; decide), if_neg (by rw [hk]; decide), if_neg (by rw [hk]; decide), if_neg (by rw [hk]; decide), if_pos hk]
  have HP0 := Lib.hid (p30_start w s x)
  have HE0 := Lib.hid ((Ev.refl hA).bel (show Bel w (w3p w s x) from bel3_16 w _ _ _))
  have hrr := hA.blk.lt
  have HC := Lib.hid (fun W => call_c s x W)
  clear hi hk hA
  cases hq : eqH s (s0 0) with
  | true =>
    rw [hq] at HC
    rw [if_pos rfl]
    have HC2 := Lib.hid (fun W => show Calls Tryz.prog 85 #[.agg #[.int .i64 (s.c : Nat), .string (ofL s.n), .string (ofL s.a), .string (ofL s.p)], nV x] W (PB (.agg #[.int .i64 (s.c : Nat), .string (ofL s.n), .string (ofL s.a), .string (ofL s.p)]) 0 0 W) by have h := HC.out W; rwa [if_pos rfl] at h)
    clear hq HC
    go_enter Tryz.func56, Tryz.ntmps56
    go_wp2_with (go_at_call 85; ((with_reducible refine (HC2.out _).mono ?_); rintro e w2 ⟨rfl, hb⟩; have HP2 := Lib.hid (HP0.out.later hb); have HE2 := Lib.hid (HE0.out.bel hb); clear hb; obtain ⟨k0, k1, k2, k3⟩ := cells4 HP2.out.b2; obtain ⟨y0, y1, y2, y3⟩ := frees4 HP2.out.b2))
    refine pp_set rfl rfl rfl rfl HP2.out.b2 (by omega) HE2.out (t := s) rfl ?_
    exact ⟨rfl, rfl, rfl, by rw [List.append_nil]⟩
  | false =>
    rw [hq] at HC
    rw [if_neg (by decide)]
    have HC2 := Lib.hid (fun W => show Calls Tryz.prog 85 #[.agg #[.int .i64 (s.c : Nat), .string (ofL s.n), .string (ofL s.a), .string (ofL s.p)], nV x] W (PB (.agg #[.int .i64 0, .string ⟨#[]⟩, .string ⟨#[]⟩, .string ⟨#[]⟩]) x.a 15 W) by have h := HC.out W; rwa [if_neg (by decide)] at h)
    clear hq HC
    go_enter Tryz.func56, Tryz.ntmps56
    go_wp2_with (go_at_call 85; ((with_reducible refine (HC2.out _).mono ?_); rintro e w2 ⟨rfl, hb⟩; have HP2 := Lib.hid (HP0.out.later hb); have HE2 := Lib.hid (HE0.out.bel hb); clear hb; obtain ⟨k0, k1, k2, k3⟩ := cells4 HP2.out.b2; obtain ⟨y0, y1, y2, y3⟩ := frees4 HP2.out.b2))
    refine pp_set rfl rfl rfl rfl HP2.out.b2 (by omega) HE2.out (t := s0 0) rfl ?_
    exact ⟨rfl, rfl, rfl, by decide⟩
theorem pp_blk {f : Func} {p u v g : Nat} {tmps : Array Value} {w W : World} {r : IR} {done : List Nat} {B rr : Nat} {A : Option Addr} {v0 v1 v2 v3 : Value} {t : HS} {a k : Int} {A' : Option Addr} {n' c' : Nat} {es : List Nat}
    (hf : f.results = #[.cell p 74, .tmp u, .tmp v]) (hp : tmps.getD p undef = .pointer (some ⟨g, 0, none⟩)) (hu : tmps.getD u undef = .int .i64 a) (hv : tmps.getD v undef = .int .i64 k)
    (hB : Blk W g 74 [v0, v1, v2, v3]) (hE : Ev B rr w A W A' n' c' es) (he : Value.agg #[v0, v1, v2, v3] = .agg #[.int .i64 (t.c : Nat), .string (ofL t.n), .string (ofL t.a), .string (ofL t.p)]) (hq : PQ r done t a k es) :
    bodyPost Tryz.prog f (PP r done B rr w A) .ret { tmps := tmps, defers := [] } W := by
  refine bodyPost_ret (results_row_tmp2_16 hf _ _ g _ _ (0, 0) _ hp hB Tryz.underlying74 rfl (by kernel_rfl)) rfl ?_
  exact ⟨t, a, k, A', n', c', es, by rw [← he, hu, hv], Lib.hid hE, Lib.hid hq⟩
set_option maxHeartbeats 6400000 in
theorem inode_other (s : HS) (hi : Inv s) (x : NT) (done : List Nat) (B rr : Nat) (A : Option Addr) (n c : Nat) (w : World) (hA : An B rr w A n c done) (hk : x.k ≠ 0 ∧ x.k ≠ 1 ∧ x.k ≠ 2 ∧ x.k ≠ 3 ∧ x.k ≠ 4 ∧ x.k ≠ 6) :
    Calls Tryz.prog 56 #[.pointer (some ⟨rr, 0, none⟩), .agg #[.int .i64 (s.c : Nat), .string (ofL s.n), .string (ofL s.a), .string (ofL s.p)], nV x] w (PP (nodeI s x) done B rr w A) := by
  have k0' : (x.k == 0) = false := by have := hk; simp only [beq_eq_false_iff_ne]; omega
  have k1' : (x.k == 1) = false := by have := hk; simp only [beq_eq_false_iff_ne]; omega
  have k2' : (x.k == 2) = false := by have := hk; simp only [beq_eq_false_iff_ne]; omega
  have k3' : (x.k == 3) = false := by have := hk; simp only [beq_eq_false_iff_ne]; omega
  have k4' : (x.k == 4) = false := by have := hk; simp only [beq_eq_false_iff_ne]; omega
  have k6' : (x.k == 6) = false := by have := hk; simp only [beq_eq_false_iff_ne]; omega
  rw [nodeI_eq, if_neg (by omega), if_neg (by omega), if_neg (by omega), if_neg (by omega), if_neg (by omega), if_neg (by omega)]
  have HP0 := Lib.hid (p30_start w s x)
  have HE0 := Lib.hid ((Ev.refl hA).bel (show Bel w (w3p w s x) from bel3_16 w _ _ _))
  have hrr := hA.blk.lt
  clear HP0 HE0
  have HA := Lib.hid hA
  clear hi hk hA
  go_enter Tryz.func56, Tryz.ntmps56
  go_wp2_with fail
  refine pp_blk rfl rfl rfl rfl (blk_at2_16 w _ _ [.int .i64 (s.c : Nat), .string (ofL s.n), .string (ofL s.a), .string (ofL s.p)]) ((Ev.refl HA.out).bel (bel3_16 w _ _ _)) (t := s) rfl ?_
  exact ⟨rfl, rfl, rfl, by rw [List.append_nil]⟩
/-- The state of list's loop. -/
structure PlAt (B rr : Nat) (w wr : World) (S : HS) (A0 A : Option Addr) (n c : Nat) (es : List Nat) : Prop where
  b0 : Blk wr w.heap.size 74 (sC S)
  b1 : Blk wr (w.heap.size + 1) 74 [.int .i64 0, .string ⟨#[]⟩, .string ⟨#[]⟩, .string ⟨#[]⟩]
  ev : Ev B rr w A0 wr A n c es
theorem PlAt.later {B rr : Nat} {w wr w2 : World} {S : HS} {A0 A : Option Addr} {n c : Nat} {es : List Nat} (h : PlAt B rr w wr S A0 A n c es) (hb : Bel wr w2) : PlAt B rr w w2 S A0 A n c es := ⟨h.b0.belh hb, h.b1.belh hb, h.ev.bel hb⟩
theorem PlAt.call {B rr : Nat} {w wr w2 : World} {S : HS} {A0 A A' : Option Addr} {n c n' c' : Nat} {es es' : List Nat} (h : PlAt B rr w wr S A0 A n c es) (h2 : Ev B rr wr A w2 A' n' c' es') : PlAt B rr w w2 S A0 A' n' c' es' :=
  ⟨h.ev.an.keep h2.only h.b0 (by decide) (by decide), h.ev.an.keep h2.only h.b1 (by decide) (by decide), h.ev.then h2⟩
set_option maxHeartbeats 6400000 in
theorem plist_row (l : List NT) (ih : ∀ x ∈ l, PM x) (B rr : Nat) (w : World) (s : HS) (X : Option Addr) (c0 : Nat) (hi : Inv s) (hX : Row w (· < B) X c0 l) : PLc B rr w s X c0 l := by
  intro w' A n0 cc done hbw hA hle
  replace hX := hX.low hbw
  clear hbw w
  revert w'
  intro w hA hX
  obtain ⟨n, hn⟩ : ∃ n, n = l.length := ⟨_, rfl⟩
  have hn5 := hX.len
  rw [← hn] at hn5 ⊢
  have HX := Lib.hid hX
  have HI := Lib.hid ih
  have HN := Lib.hid hn
  have HT := Lib.hid hle
  have HSI := Lib.hid hi
  have HA := Lib.hid hA
  have hrr := hA.blk.lt
  have HST := Lib.hid (show PlAt B rr w ((w.alloc (.cells #[.int .i64 (s.c : Nat), .string (ofL s.n), .string (ofL s.a), .string (ofL s.p)] 74)).alloc (.cells #[.int .i64 0, .string ⟨#[]⟩, .string ⟨#[]⟩, .string ⟨#[]⟩] 74)) s A A n0 cc done from ⟨(Blk.new w 74 (sC s)).alloc _, blk_at1h w _ 74 _, (Ev.refl hA).bel ((Bel.alloc _ _).trans (Bel.alloc _ _))⟩)
  clear hX ih hn hle hi hA
  go_enter Tryz.func31, Tryz.ntmps31
  go_wp2_with fail
  go_loopw [16] (fun s16 wr => ∃ (i : Nat) (S : HS) (A' : Option Addr) (n' c' : Nat) (es : List Nat), i ≤ n ∧ s16 = .int .i64 i ∧ Hid (listI s (l.take i) = .ok S es) ∧ Hid (PlAt B rr w wr S A A' n' c' (done ++ es))) (fun s16 _ => n - (intOf s16).toNat)
  case atStart => exact ⟨0, s, A, n0, cc, [], Nat.zero_le _, rfl, Lib.hid (by rw [List.take_zero, listI_nil]), Lib.hid (by rw [List.append_nil]; exact HST.out)⟩
  case round =>
    obtain ⟨i, S, A', n', c', es, hin, rfl, HR, HL⟩ := hrel
    by_cases hlt : i < n
    · have hxt := List.getElem?_eq_getElem (l := l) (i := i) (by have := HN.out; omega)
      generalize l[i]'(by have := HN.out; omega) = x at hxt
      have hxm := List.mem_of_getElem? hxt
      obtain ⟨g0, o, hAA, hg, hc, hxin⟩ := HX.out.at_ hxt
      subst hAA
      have hst := tots_step hxt
      have hle1 : n' + x.tot ≤ 100000 := by
        have h1 := HT.out
        rw [← List.take_append_drop (i + 1) l, tots_append, hst] at h1
        have h2 := listI_le HR.out
        have h3 := HL.out.ev.an.len
        have h4 := HA.out.len
        rw [List.length_append] at h3
        omega
      have hS : Inv S := by have h := listI_good (l.take i) s HSI.out; rw [HR.out] at h; exact h
      have hbe := HL.out.ev.below HA.out
      have HL1 := Lib.hid (HL.out.later (Bel.alloc wr (.cells #[.int .i64 x.k, .int .i64 x.a, .string x.s, .string x.p, .bool x.h, .bool x.e, .slice x.A x.b.length x.c, .slice x.B x.l.length x.d] 69)))
      have HC := Lib.hid (HI.out x hxm B rr (wr.alloc (.cells #[.int .i64 x.k, .int .i64 x.a, .string x.s, .string x.p, .bool x.h, .bool x.e, .slice x.A x.b.length x.c, .slice x.B x.l.length x.d] 69)) A' n' c' (done ++ es) S hS (hxin.low (HL1.out.ev.below HA.out)) HL1.out.ev.an hle1)
      have HTK := Lib.hid (listI_take (s := s) hxt)
      obtain ⟨b0, b1, b2, b3, b4, b5, b6, b7⟩ := (hc.same (w' := wr) fun p => Below.cell (p := ⟨g0, p, none⟩) hbe hg).all
      have HQ := Lib.hid (cells4 HL1.out.b0)
      clear hxt hxm hg hc hxin hst hle1 hS hbe
      obtain ⟨d0, d1, d2, d3⟩ := HQ.out
      cases hr : nodeI S x with
      | no a' k' =>
        rw [hr] at HC
        have he := nodeI_err hr
        have hk0 : (k' : Int) ≠ 0 := by omega
        have hk1 : ((k' : Int) != 0) = true := bne_iff_ne.2 hk0
        have HE := Lib.hid (show k' ≠ 0 by omega)
        have HFIN := Lib.hid (show listI s l = .no a' k' from listI_stop (i := i + 1) (by rw [HTK.out, HR.out, IR.next_ok, hr, IR.next_no]))
        clear hr he
        go_wp2_with (go_at_call 56; ((with_reducible refine (HC.out).mono ?_); rintro e w2 ⟨t, a, k, A2, n2, c2, es2, rfl, hE, hQ⟩; obtain ⟨ht, rfl, rfl, hne⟩ := hQ.out; have HL2 := Lib.hid ((HL1.out.call hE.out).later (Bel.alloc w2 (.cells #[.int .i64 (t.c : Nat), .string (ofL t.n), .string (ofL t.a), .string (ofL t.p)] 74))); clear hE hQ hne ht; obtain ⟨k0, k1, k2, k3⟩ := cells4 HL2.out.b1; obtain ⟨y0, y1, y2, y3⟩ := frees4 HL2.out.b1))
        rw [HFIN.out]
        refine pp_set rfl rfl rfl rfl HL2.out.b1 (by omega) HL2.out.ev (t := s0 0) rfl ?_
        exact ⟨rfl, rfl, rfl, HE.out⟩
      | ok S2 e2 =>
        rw [hr] at HC
        have HTN := Lib.hid (show listI s (l.take (i + 1)) = .ok S2 (es ++ e2) by rw [HTK.out, HR.out, IR.next_ok, hr, IR.next_ok])
        clear hr
        go_wp2_with (go_at_call 56; ((with_reducible refine (HC.out).mono ?_); rintro e w2 ⟨t, a, k, A2, n2, c2, es2, rfl, hE, hQ⟩; obtain ⟨rfl, rfl, rfl, hes⟩ := hQ.out; rw [List.append_assoc] at hes; subst hes; have HL2 := Lib.hid ((HL1.out.call hE.out).later (Bel.alloc w2 (.cells #[.int .i64 (t.c : Nat), .string (ofL t.n), .string (ofL t.a), .string (ofL t.p)] 74))); clear hE hQ; obtain ⟨k0, k1, k2, k3⟩ := cells4 HL2.out.b0; obtain ⟨y0, y1, y2, y3⟩ := frees4 HL2.out.b0))
        go_roundw
        case rel =>
          have hO := only4p (w2.alloc (.cells #[.int .i64 (t.c : Nat), .string (ofL t.n), .string (ofL t.a), .string (ofL t.p)] 74)) w.heap.size (.int .i64 (t.c : Nat)) (.string (ofL t.n)) (.string (ofL t.a)) (.string (ofL t.p))
          have hK := (((HL2.out.b0.set_ 0 (.int .i64 (t.c : Nat))).set_ 1 (.string (ofL t.n))).set_ 2 (.string (ofL t.a))).set_ 3 (.string (ofL t.p))
          simp only [List.set_cons_succ, List.set_cons_zero] at hK
          exact ⟨i + 1, t, A2, n2, c2, es ++ e2, by omega, by go_num, HTN, Lib.hid ⟨hK, HL2.out.b1.only hO (by simp), HL2.out.ev.own hO (Nat.le_refl _) HL2.out.b0 (by decide) (by decide)⟩⟩
        case measure => simp [intOf]; omega
    · obtain rfl : i = n := by omega
      have HFIN := Lib.hid (show listI s l = .ok S es by have h := HR.out; rwa [HN.out, List.take_length] at h)
      obtain ⟨d0, d1, d2, d3⟩ := cells4 HL.out.b0
      obtain ⟨k0, k1, k2, k3⟩ := cells4 HL.out.b1
      obtain ⟨y0, y1, y2, y3⟩ := frees4 HL.out.b1
      go_wp2_with fail
      rw [HFIN.out]
      refine pp_set rfl rfl rfl rfl HL.out.b1 (by omega) HL.out.ev (t := S) rfl ?_
      exact ⟨rfl, rfl, rfl, rfl⟩
theorem pnode_all (x : NT) : PM x := by
  refine NT.ind (M := PM) (fun t h1 h2 => ?_) x
  intro B rr w A n c done s hs ht hA hz
  rw [tot_eq] at hz
  have hb : ∀ s, Inv s → PLc B rr w s t.A t.c t.b := fun s hs => plist_row t.b h1 B rr w s _ _ hs ht.body
  have hl : ∀ s, Inv s → PLc B rr w s t.B t.d t.l := fun s hs => plist_row t.l h2 B rr w s _ _ hs ht.els
  by_cases h0 : t.k = 0
  · exact pnode_text s hs t done B rr A n c w hA h0 ht.siB
  by_cases h1 : t.k = 1
  · exact pnode_print s hs t done B rr A n c w hA h1 (by omega)
  by_cases h2 : t.k = 2
  · exact pnode_if s hs t done B rr A n c w hA h2 (by omega) (hb s hs) (hl s hs)
  by_cases h3 : t.k = 3
  · exact pnode_range s hs t done B rr A n c w hA h3 (by omega) (hb s hs)
  by_cases h4 : t.k = 4
  · exact pnode_call s hs t done B rr A n c w hA h4
  by_cases h6 : t.k = 6
  · exact inode_define s hs t done B rr A n c w hA h6 (by omega) (hb (s0 0) Inv.init)
  · exact inode_other s hs t done B rr A n c w hA ⟨h0, h1, h2, h3, h4, h6⟩
theorem plist_c {l : List NT} {X : Option Addr} {c0 : Nat} {B : Nat} {w : World} (hX : Row w (· < B) X c0 l) (rr : Nat) (s : HS) (hs : Inv s) : PLc B rr w s X c0 l := plist_row l (fun x _ => pnode_all x) B rr w s X c0 hs hX
end Go.Proofs.YtpcapmdfjmpdiaaGreatDoor

namespace Go.Proofs.YtpcapmdfjmpdiaaGreatDoor
open Go.RowKit Go.BigFrame NT
set_option linter.unusedVariables false
set_option linter.unusedSimpArgs false
set_option maxRecDepth 100000

/-- What Infer answers. -/
def InP (r : List Nat × Int × Nat) (w : World) (e : Ending) (w' : World) : Prop := Bel w w' ∧ ∃ A n c, e = .returned (.tuple #[.slice A n c, .int .i64 r.2.1, .int .i64 (r.2.2 : Nat)]) ∧ Hid (Es w w' A n c r.1)
theorem InP.nil {a : Int} {k : Nat} {w : World} {e : Ending} {w' : World} (he : e = .returned (.tuple #[.slice none 0 0, .int .i64 a, .int .i64 (k : Nat)])) (hb : Bel w w') : InP ([], a, k) w e w' := ⟨hb, none, 0, 0, he, Lib.hid (Es.nil _ _)⟩
theorem last_of {l : List NT} (h : l ≠ []) : ∃ x, l[l.length - 1]? = some x ∧ (l.getLast?.map NT.a).getD 0 = x.a := by
  have hl : 0 < l.length := List.length_pos_iff.2 h
  refine ⟨l[l.length - 1]'(by omega), List.getElem?_eq_getElem _, ?_⟩
  rw [List.getLast?_eq_getElem?, List.getElem?_eq_getElem (by omega)]
  rfl
end Go.Proofs.YtpcapmdfjmpdiaaGreatDoor

namespace Go.Proofs.YtpcapmdfjmpdiaaGreatDoor
open Go.RowKit Go.BigFrame NT
set_option linter.unusedVariables false
set_option linter.unusedSimpArgs false
set_option maxRecDepth 100000

section
variable {Q : Nat → Prop} {rr : Nat} {w : World} {v : AV}
/-- What is written where an Else is. -/
theorem if_code {L : List IN} {n : Nat} (hn : n = L.length) (p : ByteArray) (cb : CE) (ce : CE) :
    stT (stT (L ++ [⟨2, eB, p, false, 0, 0⟩] ++ cb.1 ++ [⟨3, eB, eB, false, 0, 0⟩]) n (n + 2 + cb.1.length) ++ ce.1) (n + 1 + cb.1.length) (n + 2 + cb.1.length + ce.1.length) =
      L ++ (⟨2, eB, p, false, 0, n + 2 + cb.1.length⟩ :: (cb.1 ++ ⟨3, eB, eB, false, 0, n + 2 + cb.1.length + ce.1.length⟩ :: ce.1)) := by
  have h1 : stT (L ++ [⟨2, eB, p, false, 0, 0⟩] ++ cb.1 ++ [⟨3, eB, eB, false, 0, 0⟩]) n (n + 2 + cb.1.length) = (L ++ ⟨2, eB, p, false, 0, n + 2 + cb.1.length⟩ :: cb.1) ++ [⟨3, eB, eB, false, 0, 0⟩] := by
    rw [List.append_assoc, List.append_assoc]
    refine (stT_at L (cb.1 ++ [⟨3, eB, eB, false, 0, 0⟩]) ⟨2, eB, p, false, 0, 0⟩ hn (n + 2 + cb.1.length)).trans ?_
    rw [List.append_assoc]
    rfl
  rw [h1, List.append_assoc]
  refine (stT_at (L ++ ⟨2, eB, p, false, 0, n + 2 + cb.1.length⟩ :: cb.1) ce.1 ⟨3, eB, eB, false, 0, 0⟩ (by rw [List.length_append, List.length_cons, ← hn]; omega) _).trans ?_
  rw [List.append_assoc]
  rfl
set_option maxHeartbeats 6400000 in
theorem branches_else (x : NT) (h : As Q rr w v) (he : x.e = true) (hm : prns x.b + prns x.l ≤ v.es.length) (hle : v.L.length + 2 + sizs x.b + sizs x.l ≤ 90000) (hkl : v.ks.length + sizs x.b + sizs x.l ≤ 90000) (hl : PlM Q rr w v x.A x.c x.b) (hl2 : PlM Q rr w v x.B x.d x.l) :
    Calls Tryz.prog 109 #[.pointer (some ⟨rr, 0, none⟩), nV17 x] w (NdP Q rr w v (ifC v.L.length x.p true (listC Z0 (v.L.length + 1) v.es x.b) (fun a2 es2 => listC Z0 a2 es2 x.l)) (listK (v.L.length + 1) x.b ++ listK (v.L.length + 2 + sizs x.b) x.l)) := by
  have HND := Lib.hid (show Blk (wN w x) w.heap.size 69 x.cs from Blk.new w 69 x.cs)
  obtain ⟨x0, x1, x2, x3, x4, x5, x6, x7⟩ := node_cells HND.out
  have HE0 := Lib.hid (ev_n h x)
  have HA0 := Lib.hid (as_n h x)
  have HL := Lib.hid hl
  have HL2 := Lib.hid hl2
  obtain ⟨n, hn⟩ : ∃ n, n = v.L.length := ⟨_, rfl⟩
  have HN := Lib.hid hn
  have HAD := Lib.hid (show Calls Tryz.prog 67 #[.pointer (some ⟨rr, 0, none⟩), .agg #[.int .i64 2, .string ⟨#[]⟩, .string x.p, .bool false, .int .i64 0, .int .i64 0]] (wN w x) _ from add_c (as_n h x) ⟨2, eB, x.p, false, 0, 0⟩ (by omega))
  have HA3 := Lib.hid (fun W v' (h' : As Q rr W v') (hle' : v'.L.length + 1 ≤ 100000) => show Calls Tryz.prog 67 #[.pointer (some ⟨rr, 0, none⟩), .agg #[.int .i64 3, .string ⟨#[]⟩, .string ⟨#[]⟩, .bool false, .int .i64 0, .int .i64 0]] W (AsP Q rr W v' (.int .i64 (v'.L.length : Nat)) (v'.L ++ [⟨3, eB, eB, false, 0, 0⟩]) v'.es v'.ks) from add_c h' ⟨3, eB, eB, false, 0, 0⟩ hle')
  obtain ⟨cb, hcb⟩ : ∃ cb, cb = listC Z0 (v.L.length + 1) v.es x.b := ⟨_, rfl⟩
  have hok := listC_ok Z0 x.b (v.L.length + 1) v.es
  have hkl1 := listK_len x.b (v.L.length + 1)
  rw [← hcb] at hok ⊢
  rw [← hn] at hcb hkl1
  have HCB := Lib.hid hcb
  have HLEN := Lib.hid hok.len
  have HES := Lib.hid (show prns x.l ≤ cb.2.length by rw [hok.es, List.length_drop]; omega)
  obtain ⟨ce, hce⟩ : ∃ ce, ce = listC Z0 (n + 2 + cb.1.length) cb.2 x.l := ⟨_, rfl⟩
  have HCE := Lib.hid hce
  have HLEN2 := Lib.hid (show ce.1.length = sizs x.l by rw [hce]; exact (listC_ok Z0 x.l _ _).len)
  have HIF : Hid (ifC n x.p true cb (fun a2 es2 => listC Z0 a2 es2 x.l) = (⟨2, eB, x.p, false, 0, n + 2 + cb.1.length⟩ :: (cb.1 ++ ⟨3, eB, eB, false, 0, n + 2 + cb.1.length + ce.1.length⟩ :: ce.1), ce.2)) := Lib.hid (by unfold ifC; rw [if_pos rfl]; dsimp only; rw [← hce])
  rw [← hn] at HAD hle ⊢
  have HM := Lib.hid (show prns x.b ≤ v.es.length by omega)
  have HLE := Lib.hid hle
  have HKL := Lib.hid hkl
  have HKK := Lib.hid hkl1
  have HEE := Lib.hid he
  clear h hl hl2 hn hcb hok hm hkl hce hkl1 he
  rw [HIF.out]
  clear HIF
  go_enter_defers Tryz.func109, Tryz.ntmps109
  go_wp2_with (first
    | (go_at_call 67; ((with_reducible refine HAD.out.mono ?_); rintro e w2 ⟨rfl, v1, hE1, hS1⟩; have HE1 := Lib.hid (HE0.out.trans hE1.out); have hls1 : v1.L.length = n + 1 := (by rw [hS1.out.L, List.length_append, ← HN.out]; rfl); have HN1 := Lib.hid (blk_kept HA0.out hE1.out HND.out); obtain ⟨x0', x1', x2', x3', x4', x5', x6', x7'⟩ := node_cells HN1.out; have HLC : Hid (Calls Tryz.prog 66 #[.pointer (some ⟨rr, 0, none⟩), .slice x.A x.b.length x.c] w2 (NdP Q rr w2 v1 cb (listK (n + 1) x.b))) := Lib.hid (plc_at (HL.out w2 v1 HE1.out (by rw [hS1.out.es]; exact HM.out) (by rw [hls1]; have := HLE.out; omega) (by rw [hS1.out.ks]; have := HKL.out; omega)) hls1 (by rw [hS1.out.es]; exact HCB.out))))
    | (go_at_call 66; ((with_reducible refine HLC.out.mono ?_); rintro e w3 ⟨rfl, v2, hE2, hS2⟩; have HE2 := Lib.hid (HE1.out.trans hE2.out); have HLS2 : Hid (v2.L.length = n + 1 + cb.1.length) := Lib.hid (by rw [hS2.out.L, List.length_append, hls1]); have HN2 := Lib.hid (blk_kept hE1.out.st hE2.out HN1.out); obtain ⟨y0', y1', y2', y3', y4', y5', y6', y7'⟩ := node_cells HN2.out; rw [HEE.out] at y5'))
    | (go_at_call 67; ((with_reducible refine (HA3.out w3 v2 hE2.out.st (by rw [HLS2.out]; have := HLE.out; have := HLEN.out; omega)).mono ?_); rintro e w4 ⟨rfl, v3, hE3, hS3⟩; have HE3 := Lib.hid (HE2.out.trans hE3.out); have hls3 : v3.L.length = n + 2 + cb.1.length := (by rw [hS3.out.L, List.length_append, HLS2.out]; show n + 1 + cb.1.length + 1 = _; omega); have HN3 := Lib.hid (blk_kept hE2.out.st hE3.out HN2.out)))
    | (go_at_call 124; ((with_reducible refine (aim_c hE3.out.st n (by omega) (by rw [hls3]; have := HLE.out; have := HLEN.out; omega)).mono ?_); rintro e w5 ⟨rfl, v4, hE4, hS4⟩; have HE4 := Lib.hid (HE3.out.trans hE4.out); have hls4 : v4.L.length = n + 2 + cb.1.length := (by rw [hS4.out.L, stT_len, hls3]); have hes4 : v4.es = cb.2 := (by rw [hS4.out.es, hS3.out.es, hS2.out.es]); have HN4 := Lib.hid (blk_kept hE3.out.st hE4.out HN3.out); obtain ⟨z0', z1', z2', z3', z4', z5', z6', z7'⟩ := node_cells HN4.out; have hks4 : v4.ks.length ≤ v.ks.length + sizs x.b := (by rw [hS4.out.ks, hS3.out.ks, hS2.out.ks, hS1.out.ks, List.length_append]; have := HKK.out; omega); have HLE4 : Hid (Calls Tryz.prog 66 #[.pointer (some ⟨rr, 0, none⟩), .slice x.B x.l.length x.d] w5 (NdP Q rr w5 v4 ce (listK (n + 2 + cb.1.length) x.l))) := Lib.hid (plc_at (HL2.out w5 v4 HE4.out (by rw [hes4]; exact HES.out) (by rw [hls4]; have := HLE.out; have := HLEN.out; omega) (by have := HKL.out; omega)) hls4 (by rw [hes4]; exact HCE.out))))
    | (go_at_call 66; ((with_reducible refine HLE4.out.mono ?_); rintro e w6 ⟨rfl, v5, hE5, hS5⟩; have HE5 := Lib.hid (HE4.out.trans hE5.out); have hls5 : v5.L.length = n + 2 + cb.1.length + ce.1.length := (by rw [hS5.out.L, List.length_append, hls4]))))
  refine leaves_cons (f := 124) (args := #[.pointer (some ⟨rr, 0, none⟩), .int .i64 (v2.L.length : Nat)]) (by simp) (by simp [go_sem]) ?_
  refine (aimD_c .returning hE5.out.st v2.L.length (by rw [HLS2.out, hls5]; omega) (by rw [hls5]; have := HLE.out; have := HLEN.out; have := HLEN2.out; omega)).mono ?_
  rintro e u' w7 ⟨rfl, rfl, v6, hE6, hS6⟩
  refine ⟨_, results_none rfl _ _ _, ?_⟩
  refine ⟨rfl, v6, Lib.hid (HE5.out.trans hE6.out), Lib.hid ⟨?_, ?_, ?_, ?_⟩⟩
  · rw [hS6.out.L, HLS2.out, hls5, hS5.out.L, hS4.out.L, hls3, hS3.out.L, hS2.out.L, hS1.out.L]
    exact if_code HN.out x.p cb ce
  · rw [hS6.out.es, hS5.out.es]
  · rw [hS6.out.ks, hS5.out.ks, hS4.out.ks, hS3.out.ks, hS2.out.ks, hS1.out.ks, List.append_assoc, HLEN.out]
  · rw [hS6.out.M, hS5.out.M, hS4.out.M, hS3.out.M, hS2.out.M, hS1.out.M]
theorem plc_nil {W : World} {v : AV} {X : Option Addr} {c0 : Nat} {l : List NT} (h : PlC Q rr W v X c0 l) (hl : l = []) :
    Calls Tryz.prog 66 #[.pointer (some ⟨rr, 0, none⟩), .slice X l.length c0] W (NdP Q rr W v ([], v.es) []) := by
  unfold PlC at h
  subst hl
  rw [listC_nil, listK_nil] at h
  exact h
set_option maxHeartbeats 6400000 in
theorem branches_no (x : NT) (h : As Q rr w v) (he : x.e = false) (hx : x.l = []) (hm : prns x.b ≤ v.es.length) (hle : v.L.length + 1 + sizs x.b ≤ 90000) (hkl : v.ks.length + sizs x.b ≤ 90000) (hl : PlM Q rr w v x.A x.c x.b) (hl2 : PlM Q rr w v x.B x.d x.l) :
    Calls Tryz.prog 109 #[.pointer (some ⟨rr, 0, none⟩), nV17 x] w (NdP Q rr w v (ifC v.L.length x.p false (listC Z0 (v.L.length + 1) v.es x.b) (fun a2 es2 => listC Z0 a2 es2 x.l)) (listK (v.L.length + 1) x.b)) := by
  have HND := Lib.hid (show Blk (wN w x) w.heap.size 69 x.cs from Blk.new w 69 x.cs)
  obtain ⟨x0, x1, x2, x3, x4, x5, x6, x7⟩ := node_cells HND.out
  have HE0 := Lib.hid (ev_n h x)
  have HA0 := Lib.hid (as_n h x)
  have HL := Lib.hid hl
  have HL2 := Lib.hid hl2
  obtain ⟨n, hn⟩ : ∃ n, n = v.L.length := ⟨_, rfl⟩
  have HN := Lib.hid hn
  have HAD := Lib.hid (show Calls Tryz.prog 67 #[.pointer (some ⟨rr, 0, none⟩), .agg #[.int .i64 2, .string ⟨#[]⟩, .string x.p, .bool false, .int .i64 0, .int .i64 0]] (wN w x) _ from add_c (as_n h x) ⟨2, eB, x.p, false, 0, 0⟩ (by omega))
  obtain ⟨cb, hcb⟩ : ∃ cb, cb = listC Z0 (v.L.length + 1) v.es x.b := ⟨_, rfl⟩
  have hok := listC_ok Z0 x.b (v.L.length + 1) v.es
  have hkl1 := listK_len x.b (v.L.length + 1)
  rw [← hcb] at hok ⊢
  rw [← hn] at hcb hkl1
  have HCB := Lib.hid hcb
  have HLEN := Lib.hid hok.len
  have HIF : Hid (ifC n x.p false cb (fun a2 es2 => listC Z0 a2 es2 x.l) = (⟨2, eB, x.p, false, 0, n + 1 + cb.1.length⟩ :: cb.1, cb.2)) := Lib.hid (by unfold ifC; rw [if_neg (by decide)])
  rw [← hn] at HAD hle ⊢
  have HM := Lib.hid (show prns x.b ≤ v.es.length by omega)
  have HLE := Lib.hid hle
  have HKL := Lib.hid hkl
  have HKK := Lib.hid hkl1
  have HEE := Lib.hid he
  have HXL := Lib.hid hx
  clear h hl hl2 hn hcb hok hm hkl hkl1 he hx
  rw [HIF.out]
  clear HIF
  go_enter_defers Tryz.func109, Tryz.ntmps109
  go_wp2_with (first
    | (go_at_call 67; ((with_reducible refine HAD.out.mono ?_); rintro e w2 ⟨rfl, v1, hE1, hS1⟩; have HE1 := Lib.hid (HE0.out.trans hE1.out); have hls1 : v1.L.length = n + 1 := (by rw [hS1.out.L, List.length_append, ← HN.out]; rfl); have HN1 := Lib.hid (blk_kept HA0.out hE1.out HND.out); obtain ⟨x0', x1', x2', x3', x4', x5', x6', x7'⟩ := node_cells HN1.out; have HLC : Hid (Calls Tryz.prog 66 #[.pointer (some ⟨rr, 0, none⟩), .slice x.A x.b.length x.c] w2 (NdP Q rr w2 v1 cb (listK (n + 1) x.b))) := Lib.hid (plc_at (HL.out w2 v1 HE1.out (by rw [hS1.out.es]; exact HM.out) (by rw [hls1]; have := HLE.out; omega) (by rw [hS1.out.ks]; have := HKL.out; omega)) hls1 (by rw [hS1.out.es]; exact HCB.out))))
    | (go_at_call 66; ((with_reducible refine HLC.out.mono ?_); rintro e w3 ⟨rfl, v2, hE2, hS2⟩; have HE2 := Lib.hid (HE1.out.trans hE2.out); have HLS2 : Hid (v2.L.length = n + 1 + cb.1.length) := Lib.hid (by rw [hS2.out.L, List.length_append, hls1]); have HN2 := Lib.hid (blk_kept hE1.out.st hE2.out HN1.out); obtain ⟨y0', y1', y2', y3', y4', y5', y6', y7'⟩ := node_cells HN2.out; rw [HEE.out] at y5'))
    | (go_at_call 124; ((with_reducible refine (aim_c hE2.out.st n (by rw [HLS2.out]; omega) (by rw [HLS2.out]; have := HLE.out; have := HLEN.out; omega)).mono ?_); rintro e w5 ⟨rfl, v4, hE4, hS4⟩; have HE4 := Lib.hid (HE2.out.trans hE4.out); have hls4 : v4.L.length = n + 1 + cb.1.length := (by rw [hS4.out.L, stT_len, HLS2.out]); have hes4 : v4.es = cb.2 := (by rw [hS4.out.es, hS2.out.es]); have HN4 := Lib.hid (blk_kept hE2.out.st hE4.out HN2.out); obtain ⟨z0', z1', z2', z3', z4', z5', z6', z7'⟩ := node_cells HN4.out; have hks4 : v4.ks.length ≤ v.ks.length + sizs x.b := (by rw [hS4.out.ks, hS2.out.ks, hS1.out.ks, List.length_append]; have := HKK.out; omega); have HLE4 : Hid (Calls Tryz.prog 66 #[.pointer (some ⟨rr, 0, none⟩), .slice x.B x.l.length x.d] w5 (NdP Q rr w5 v4 ([], v4.es) [])) := Lib.hid (plc_nil (HL2.out w5 v4 HE4.out (by rw [HXL.out, prns_nil]; omega) (by rw [HXL.out, sizs_nil, hls4]; have := HLE.out; have := HLEN.out; omega) (by rw [HXL.out, sizs_nil]; have := HKL.out; omega)) HXL.out)))
    | (go_at_call 66; ((with_reducible refine HLE4.out.mono ?_); rintro e w6 ⟨rfl, v5, hE5, hS5⟩; have HE5 := Lib.hid (HE4.out.trans hE5.out))))
  refine ⟨_, results_none rfl _ _ _, ?_⟩
  refine ⟨rfl, v5, HE5, Lib.hid ⟨?_, ?_, ?_, ?_⟩⟩
  · rw [hS5.out.L, List.append_nil, hS4.out.L, HLS2.out, hS2.out.L, hS1.out.L, List.append_assoc]
    exact stT_at v.L cb.1 ⟨2, eB, x.p, false, 0, 0⟩ HN.out (n + 1 + cb.1.length)
  · rw [hS5.out.es]; exact hes4
  · rw [hS5.out.ks, List.append_nil, hS4.out.ks, hS2.out.ks, hS1.out.ks]
  · rw [hS5.out.M, hS4.out.M, hS2.out.M, hS1.out.M]
end
end Go.Proofs.YtpcapmdfjmpdiaaGreatDoor
