/-
  Contracts: the program's token, isBlock; slices.Clone of nodes.
  Contract: the program's canonical source of nodes.
-/
import Derived.Test.YthbcjljkpnkakaaWk13
import Derived.Test.YthbcjljkpnkakaaFn11
import Derived.Test.YthbcjljkpnkakaaRegion2
import Derived.Test.YthbcjljkpnkakaaLa11
import Derived.Test.YthbcjljkpnkakaaDi11
import Derived.Shelf.Strings.BuilderK
namespace Go.Proofs.Ythbcjljkpnkakaa
open Go.RowKit Go.BigFrame Go.Shelf NT
set_option linter.unusedVariables false
set_option linter.unusedSimpArgs false

theorem pblock_c (k : Int) (w : World) : Calls Try.prog 20 #[.int .i64 k] w fun e w' => e = .returned (.bool (blkI k)) ∧ w' = w := by
  by_cases h2 : k = 2
  · subst h2
    go_enter Try.func20, Try.ntmps20
    go_wp2_with fail
    go_ret
    exact ⟨rfl, rfl⟩
  by_cases h3 : k = 3
  · subst h3
    go_enter Try.func20, Try.ntmps20
    go_wp2_with fail
    go_ret
    exact ⟨rfl, rfl⟩
  by_cases h6 : k = 6
  · subst h6
    go_enter Try.func20, Try.ntmps20
    go_wp2_with fail
    go_ret
    exact ⟨rfl, rfl⟩
  have e2 : (k == 2) = false := beq_eq_false_iff_ne.2 h2
  have e3 : (k == 3) = false := beq_eq_false_iff_ne.2 h3
  have e6 : (k == 6) = false := beq_eq_false_iff_ne.2 h6
  have hb : blkI k = false := by unfold blkI; rw [e2, e3, e6]; rfl
  rw [hb]
  clear hb
  go_enter Try.func20, Try.ntmps20
  go_wp2_with fail
  go_ret
  exact ⟨rfl, rfl⟩
/-- What token answers of a node. -/
def tokV (t : NT) : Value := .agg #[.int .i64 t.k, .int .i64 0, .string t.s, .string t.p, .bool t.h]
set_option maxHeartbeats 800000 in
theorem token_c {w : World} {g o : Nat} {t : NT} (hc : t.Cells w g o) (hg : g < w.heap.size) : Calls Try.prog 19 #[.pointer (some ⟨g, o, none⟩)] w fun e w' => e = .returned (.agg #[.int .i64 t.k, .int .i64 0, .string t.s, .string t.p, .bool t.h]) ∧ Bel w w' := by
  have HC := Lib.hid hc.all
  go_enter Try.func19, Try.ntmps19
  go_wp2_with fail
  refine region_begin (T := [w.heap.size]) (by kernel_rfl) ?_
  have HB := Lib.hid (Blk.new w 53 [.int .i64 0, .int .i64 0, .string ⟨#[]⟩, .string ⟨#[]⟩, .bool false]).drew
  have HBW : Hid (Bel w (w.alloc (.cells #[.int .i64 0, .int .i64 0, .string ⟨#[]⟩, .string ⟨#[]⟩, .bool false] 53)).drew) := Lib.hid ((Bel.alloc _ _).trans (Bel.drew _))
  generalize (w.alloc (.cells #[.int .i64 0, .int .i64 0, .string ⟨#[]⟩, .string ⟨#[]⟩, .bool false] 53)).drew = W at HB HBW ⊢
  have hcc : ∀ (X : Later [w.heap.size] W) (j : Nat), X.w.cell? ⟨g, j, none⟩ = w.cell? ⟨g, j, none⟩ := fun X j => (bel_on1 HBW.out X.h (Nat.le_refl _)).cell hg
  obtain ⟨c0, _, c2, c3, c4, _⟩ := HC.out
  have p0 : ∀ X : Later [w.heap.size] W, X.w.cell? ⟨g, o, none⟩ = some (.int .i64 t.k) := fun X => (hcc X _).trans c0
  have p2 : ∀ X : Later [w.heap.size] W, X.w.cell? ⟨g, o + 2, none⟩ = some (.string t.s) := fun X => (hcc X _).trans c2
  have p3 : ∀ X : Later [w.heap.size] W, X.w.cell? ⟨g, o + 3, none⟩ = some (.string t.p) := fun X => (hcc X _).trans c3
  have p4 : ∀ X : Later [w.heap.size] W, X.w.cell? ⟨g, o + 4, none⟩ = some (.bool t.h) := fun X => (hcc X _).trans c4
  clear hcc c0 c2 c3 c4
  refine region_seg [true, true, true, true, true, true, true, true, true, true, true, true, true, true, true, true] 2 (by kernel_rfl) (by kernel_rfl) (by kernel_rfl) rfl (fun _ _ d _ _ h => by cases d <;> exact h) ?_
  repeat (first | with_reducible refine wpMask_pass ?_ | (refine wpMask_want (by rfl) (fun K hK => ?_); go_big_quiet_op; refine hK _ ?_; clear hK K))
  with_reducible refine wpMask_nil ?_
  clear p0 p2 p3 p4
  refine region_make 16 (v := .agg #[.int .i64 t.k, .int .i64 0, .string t.s, .string t.p, .bool t.h]) (w1 := W) (by kernel_rfl) rfl (by rfl) (by go_simp) (Only.refl _ _) ?_
  simp only [List.getElem_toArray, List.getElem_cons_zero, List.getElem_cons_succ, Act.put, List.setIfInBounds_toArray, List.set_cons_zero, List.set_cons_succ]
  have hk0 := HB.out
  have hk1 := set5 hk0 (.int .i64 t.k) (.int .i64 0) (.string t.s) (.string t.p) (.bool t.h)
  have ho1 := only5 W w.heap.size (.int .i64 t.k) (.int .i64 0) (.string t.s) (.string t.p) (.bool t.h)
  obtain ⟨z0, z1, z2, z3, z4⟩ := cells5 hk0
  obtain ⟨f0, f1, f2, f3, f4⟩ := frees5 hk0
  refine region_store (w1 := ((((W.setCell ⟨w.heap.size, 0, none⟩ (.int .i64 t.k)).setCell ⟨w.heap.size, 1, none⟩ (.int .i64 0)).setCell ⟨w.heap.size, 2, none⟩ (.string t.s)).setCell ⟨w.heap.size, 3, none⟩ (.string t.p)).setCell ⟨w.heap.size, 4, none⟩ (.bool t.h)) 17 (by kernel_rfl) rfl (by rfl) (by go_simp) ho1 ?_
  have HBT := Lib.hid hk1
  have HBV := Lib.hid (bel_on1 HBW.out ho1 (Nat.le_refl _))
  clear hk0 hk1 ho1 z0 z1 z2 z3 z4 f0 f1 f2 f3 f4
  generalize ((((W.setCell ⟨w.heap.size, 0, none⟩ (.int .i64 t.k)).setCell ⟨w.heap.size, 1, none⟩ (.int .i64 0)).setCell ⟨w.heap.size, 2, none⟩ (.string t.s)).setCell ⟨w.heap.size, 3, none⟩ (.string t.p)).setCell ⟨w.heap.size, 4, none⟩ (.bool t.h) = V at HBT HBV ⊢
  refine region_end (by kernel_rfl) ?_
  go_wp2_with fail
  refine bodyPost_ret (results_cell_row rfl _ _ w.heap.size _ _ (0, 0) _ rfl HBT.out Try.underlying53 rfl (by kernel_rfl)) rfl ?_
  exact ⟨rfl, HBV.out⟩
end Go.Proofs.Ythbcjljkpnkakaa

namespace Go.Proofs.Ythbcjljkpnkakaa
open Go.RowKit Go.BigFrame Go.Shelf NT
set_option linter.unusedVariables false
set_option linter.unusedSimpArgs false
attribute [local go_sem] Oper.semAt_some

/-! ### The builder -/
/-- The builder at block b holds the bytes l; what it leans on lies from n0 on. -/
def Bu (n0 b : Nat) (l : List UInt8) (W : World) : Prop := Lib.IsBuilderF 40 5 n0 b (Lib.byteCells l) W
theorem builderAt_grown {T e : TypeId} {B b : Nat} {p : Value} {bs : List Value} {W W' : World} {row : Option Nat} (h : Lib.BuilderAtF T e B b p bs W) (hg : W.grownBy W' row) (hr : ∀ r, row = some r → ∃ o : Obj, W.heap[r]? = some o ∧ o.isCells = false) : Lib.BuilderAtF T e B b p bs W' := by
  obtain ⟨hB, v, hb, hown, hne⟩ := h
  refine ⟨hB, v, (grownBy_keeps_cells hg hr hb rfl).trans hb, hown.kept hg ?_, hne⟩
  cases hv : v.ownBlock with
  | none => exact .inl rfl
  | some g =>
    refine .inr fun e => ?_
    obtain ⟨o, ho, hc⟩ := hr g e.symm
    rcases hown.2 with ⟨hv', _⟩ | ⟨g', cap, cur, fz, hv', _, hgg, _⟩
    · rw [hv'] at hv; cases hv
    · rw [hv'] at hv
      injection hv with hv
      simp only at hv
      subst hv
      rw [hgg] at ho
      cases ho
      cases hc
theorem Bu.grown {n0 b : Nat} {l : List UInt8} {W W' : World} {row : Option Nat} (h : Bu n0 b l W) (hg : W.grownBy W' row) (hr : ∀ r, row = some r → ∃ o : Obj, W.heap[r]? = some o ∧ o.isCells = false) : Bu n0 b l W' :=
  h.elim (fun h => .inl (builderAt_grown h hg hr)) (fun h => .inr (builderAt_grown h hg hr))
theorem Bu.alloc {n0 b : Nat} {l : List UInt8} {W : World} (h : Bu n0 b l W) (o : Obj) : Bu n0 b l (W.alloc o) := h.grown (World.grownBy_alloc W o none) (fun r e => by cases e)
theorem Bu.lt {n0 b : Nat} {l : List UInt8} {W : World} (h : Bu n0 b l W) : b < W.heap.size := h.elim (fun h => h.lt) (fun h => h.lt)
theorem Bu.cells {n0 b : Nat} {l : List UInt8} {W : World} (h : Bu n0 b l W) : ∃ o : Obj, W.heap[b]? = some o ∧ o.isCells = true := by
  rcases h with ⟨_, v, hb, _⟩ | ⟨_, v, hb, _⟩
  · exact ⟨_, hb, rfl⟩
  · exact ⟨_, hb, rfl⟩
/-- Memory grew: all of the builder lies as it lay. -/
theorem Bu.bel {n0 b : Nat} {l : List UInt8} {W W' : World} (h : Bu n0 b l W) (hb : Bel W W') : Bu n0 b l W' := by
  have key : ∀ p, Lib.BuilderAtF 40 5 n0 b p (Lib.byteCells l) W → Lib.BuilderAtF 40 5 n0 b p (Lib.byteCells l) W' := by
    rintro p ⟨hB, v, h1, ⟨h2, h3⟩, hne⟩
    refine ⟨hB, v, (hb.block b (Array.getElem?_eq_some_iff.1 h1).1).trans h1, ⟨h2, ?_⟩, hne⟩
    rcases h3 with h3 | ⟨g, cap, cur, fz, hv, hbg, hgg, rest⟩
    · exact .inl h3
    · exact .inr ⟨g, cap, cur, fz, hv, hbg, (hb.block g (Array.getElem?_eq_some_iff.1 hgg).1).trans hgg, rest⟩
  exact h.elim (fun h => .inl (key _ h)) (fun h => .inr (key _ h))
theorem bu_new (w : World) : Bu w.heap.size w.heap.size [] (w.alloc (.cells #[.pointer none, .slice none 0 0] 40)) :=
  .inl ⟨Nat.le_refl _, .slice none 0 0, World.alloc_heap_new w _, ⟨rfl, .inl ⟨rfl, rfl⟩⟩, by simp [Value.ownBlock]⟩
theorem bel_keeps {W W' : World} (h : Bel W W') (B : Nat) : KeepsFrom B W W' := ⟨h.size, fun k o _ hk _ => (h.block k (Array.getElem?_eq_some_iff.1 hk).1).trans hk⟩
theorem bel_put {w W : World} {D : Nat} {o o' : Obj} (h : Bel w W) (hK : W.heap[D]? = some o) (hD : w.heap.size ≤ D) : Bel w (W.putObj D o') :=
  ⟨h.os, h.tape, h.output, by rw [World.putObj_size]; exact h.size, fun k hk => (World.putObj_heap_other (by omega)).trans (h.block k hk)⟩
theorem others_keep {W W' : World} {b B : Nat} (h : Lib.OthersKept 5 (some b) W W') (hs : W.heap.size ≤ W'.heap.size) (hb : ∃ o : Obj, W.heap[b]? = some o ∧ o.isCells = true) : KeepsFrom B W W' :=
  ⟨hs, fun k o _ hk ho => h k o hk (fun e => by
    obtain ⟨o', h1, h2⟩ := hb
    injection e with e
    subst e
    rw [hk] at h1
    cases h1
    rw [ho] at h2
    cases h2) (fun cs fz e => by subst e; cases ho)⟩
theorem write_c {n0 b : Nat} {l m : List UInt8} {s : ByteArray} {W : World} (h : Bu n0 b l W) (hs : s = ofL m) (hl : l.length + m.length ≤ 1000000) (hn : n0 ≤ W.heap.size) :
    Calls Try.prog 17 #[.pointer (some ⟨b, 0, none⟩), .string s] W fun e W' => e = .returned (.tuple #[.int .i64 s.size, .nilIface]) ∧ Bu n0 b (l ++ m) W' ∧ Below n0 W W' ∧ ∀ B, KeepsFrom B W W' := by
  subst hs
  refine (Any.Builder_WriteString_k { Try.laysJN with } jnExtra n0 b (Lib.byteCells l) (ofL m) W h (by rw [Lib.byteCells_length]; show l.length + m.length ≤ _; omega) hn).mono ?_
  rintro e W' ⟨rfl, h1, h2, h3⟩
  refine ⟨rfl, .inr ?_, h2, fun B => others_keep h3 h2.size h.cells⟩
  rw [Lib.byteCells_append]
  exact h1
theorem bstring_c {n0 b : Nat} {l : List UInt8} {W : World} (h : Bu n0 b l W) (hn : n0 ≤ W.heap.size) :
    Calls Try.prog 21 #[.pointer (some ⟨b, 0, none⟩)] W fun e W' => e = .returned (.string (ofL l)) ∧ Below n0 W W' ∧ Lib.OthersKept 5 (some b) W W' := by
  refine (Any.Builder_String_any_k { Try.laysJN with } jnExtra n0 b l W h hn).mono ?_
  rintro e W' ⟨rfl, _, h2, h3⟩
  exact ⟨rfl, h2, h3⟩

theorem cell_alloc13 {W : World} {a : Addr} {v : Value} (h : W.cell? a = some v) (o : Obj) : (W.alloc o).cell? a = some v := cell_kept h (World.grownBy_alloc W o none) (fun r e => by cases e)
/-! ### Format -/
/-- What lies between two rounds. -/
def FmI (w : World) (bx : Nat) (A : Option Addr) (n c : Nat) (pre : List Vis) (W : World) : Prop := Bel w W ∧ Bu w.heap.size w.heap.size (outs pre) W ∧ (pre = [] → W.cell? ⟨bx, 0, none⟩ = some (.slice A n c))
theorem fmI_own {w : World} {bx : Nat} {A : Option Addr} {n c B : Nat} (hB : w.heap.size ≤ B) : OwnFrom B (FmI w bx A n c) := by
  rintro s X Y row ⟨h1, h2, h3⟩ hg hr
  exact ⟨ownFrom_below (β := Unit) (Nat.le_refl _) hB () X Y row h1 hg hr, h2.grown hg (fun r e => (hr r e).2), fun e => cell_kept (h3 e) hg (fun r e => (hr r e).2)⟩
theorem blk_own {β : Type} {B bv : Nat} {t : TypeId} {cs : List Value} : OwnFrom B (fun (_ : β) W => Blk W bv t cs) := fun s X Y row h hg hr => (grownBy_keeps_cells hg (fun r e => (hr r e).2) h rfl).trans h
theorem good_k8 {u : Tok} (h : Good u) : u.k ≤ 8 := by
  by_cases h0 : u.k = 0
  · omega
  · exact (h.2.1 h0).1
/-- The activation in a round. -/
def fmAct (w : World) (A : Option Addr) (n c bv : Nat) (u7 : Value) : Act := { tmps := #[.slice A n c, undef, .string ⟨#[]⟩, .pointer (some ⟨w.heap.size, 0, none⟩), .pointer (some ⟨bv, 0, none⟩), .slice A n c, .func (.func 28) #[] #[.pointer (some ⟨w.heap.size + 1, 0, none⟩)], u7, undef, undef, undef, undef, undef, undef, undef, undef, undef, undef, undef, undef, undef, undef, undef, undef, undef, undef, undef, undef, undef, undef, undef, undef, undef, undef, undef, undef, undef, undef, undef, undef, undef, undef, undef, undef, undef, undef, undef], defers := [] }
/-- What one visit's round does, once its body is walked. -/
def FmRound (w : World) (pre : List Vis) (x : Vis) (B : Nat) (W W' : World) : Prop := KeepsFrom B W W' ∧ Bel w W' ∧ Bu w.heap.size w.heap.size (outs (pre ++ [x])) W'
theorem outs_pre {all pre : List Vis} {x : Vis} (h : roPre all pre x) : (outs pre).length + x.out.length ≤ (outs all).length := by
  obtain ⟨r, rfl⟩ := h
  rw [outs_append, outs_cons, List.length_append, List.length_append]
  omega
set_option maxRecDepth 100000 in
set_option maxHeartbeats 3200000 in
theorem pformat_c {l : List NT} {A : Option Addr} {c : Nat} {w : World} (hA : Row w (Lt w) A c l) (hg : ∀ x, x ∈ l → Ng x) (hw : ∀ x, x ∈ l → Wn x) (hle : (fmtNs l).length ≤ 100000) :
    Calls Try.prog 9 #[.slice A l.length c] w fun e w' => e = .returned (.string (ofL (fmtNs l))) ∧ Bel w w' := by
  have HNG := Lib.hid (vNs_ng hg A)
  have HOK := Lib.hid (vNs_ok hA)
  have ho := vNs_outs hw A 0
  rw [← ho] at hle ⊢
  have HIT := Lib.hid (fun (bx m : Nat) (I : List Vis → World → Prop) => ro_iterates (m := m) (I := I) (bx := bx) hA)
  generalize vNs l A 0 = all at HNG HOK hle HIT ⊢
  obtain ⟨n, hn⟩ : ∃ n, n = l.length := ⟨_, rfl⟩
  rw [← hn] at HIT ⊢
  have HLE := Lib.hid hle
  clear hA hg hw hle ho hn
  refine (callsIn_wide (n := 6)).1 (callsIn_of_wp_marks Try.func9 rfl trivial ?_ rfl)
  simp only [Try.ntmps9, List.size_toArray, List.length_cons, List.length_nil, Nat.reduceAdd, Nat.reduceSub, Array.replicate_succ, Array.replicate_zero, List.push_toArray, List.append_toArray, List.nil_append, List.cons_append]
  refine wpIn_wide.2 ?_
  go_wp2_with (go_at_call 16; refine (visits_c A n c _).mono ?_; rintro e w2 ⟨rfl, rfl⟩)
  refine (wpIn_wide (n := 6)).1 ?_
  refine rangeFunc_st (n := 6) rfl (by omega) (gf := 28) (lb := #[.pointer (some ⟨w.heap.size + 1, 0, none⟩)]) rfl trivial (enters_of Try.func28 (by kernel_rfl) rfl)
    (HIT.out (w.heap.size + 1) 5 (FmI w (w.heap.size + 1) A n c) (fun s W h => h.1) (fun W h => h.2.2 rfl)) (fun _ => rfl) (fun _ _ => False) (fmI_own (by simp; omega)) (fun _ _ _ _ _ h _ _ => h.elim)
    ⟨(Bel.alloc _ _).trans (Bel.alloc _ _), (bu_new w).alloc _, fun _ => (blk_at1 w _ 22 [.slice A n c]).cell 0⟩
    (fun s x a' W => FmI w (w.heap.size + 1) A n c s W ∧ roPre all s x ∧ ∃ bv u7, Blk W bv 46 x.cs ∧ a' = fmAct w A n c bv u7)
    (fun s x a' => by
      rintro u X Y row ⟨h1, h2, bv, u7, h3, h4⟩ hg hr
      exact ⟨fmI_own (by simp; omega) s X Y row h1 hg hr, h2, bv, u7, blk_own () X Y row h3 hg hr, h4⟩) ?assign ?body ?done ?stop
  case assign =>
    intro l s x W K hsz hI hpre hK
    have HK := Lib.hid hK
    have HI := Lib.hid hI
    have HP := Lib.hid hpre
    clear hK hI hpre
    simp only [vEnc, Vis.val]
    gi_wp2_with fail
    refine HK.out _ _ ((KeepsOthers.alloc _ _).from _) ⟨⟨HI.out.1.trans (Bel.alloc _ _), HI.out.2.1.alloc _, fun e => cell_alloc13 (HI.out.2.2 e) _⟩, HP.out, W.heap.size, _, Blk.new W 46 x.cs, rfl⟩
  case body =>
    rintro l pre x a' W ⟨hI, hpre, bv, u7, hbv, rfl⟩
    have hok := (HOK.out x (roPre_mem hpre)).bel hI.1
    obtain ⟨u, e1, e2, e3, e4, e5, e6, e7, e8⟩ := (HNG.out x (roPre_mem hpre)).tok
    have hlen := outs_pre hpre
    have HLN := Lib.hid (show (outs pre).length + x.out.length ≤ 1000000 by have := HLE.out; omega)
    have HSN := Lib.hid (outs_snoc pre x)
    have hnil : pre ++ [x] = [] → False := by simp
    have HNIL := Lib.hid hnil
    obtain ⟨g, o, t, q⟩ := x
    have hq := hok.q
    have hc := hok.cells
    have hgl := hok.lt
    simp only at hq hc hgl e1 e2 e3 e4
    have HI := Lib.hid hI
    have HC := Lib.hid hc
    have hlt := HI.out.2.1.lt
    clear hok hI hc hpre hlen hnil
    rcases (by omega : q = 0 ∨ q = 1 ∨ q = 2) with rfl | rfl | rfl
    · -- before the Body
      have hbv0 : Blk W bv 46 [.pointer (some ⟨g, o, none⟩), .int .i64 0] := hbv
      have b0 := hbv0.cell 0
      have b1 := hbv0.cell 1
      have ho : (⟨g, o, t, 0⟩ : Vis).out = fmt u := by
        show fmt ⟨t.k.toNat, 0, toL t.s, toL t.p, t.h⟩ = fmt u
        rw [e1, e2, e3, e4, Int.toNat_natCast, toL_ofL, toL_ofL]
        rfl
      rw [ho] at HLN HSN
      have HT := token_c HC.out hgl
      rw [e1, e2, e3, e4] at HT
      have HT := Lib.hid HT
      have hk8 := good_k8 e5
      have HF := fun W => format_c u hk8 e6 e7 W
      rw [e8] at HF
      have HF := Lib.hid HF
      clear ho e1 e2 e3 e4 e5 e6 e7 e8 hbv hbv0 hq
      obtain ⟨F, hF⟩ : ∃ F, F = ofL (fmt u) := ⟨_, rfl⟩
      rw [← hF] at HF
      have HFD := Lib.hid hF
      have b0 : W.cell? ⟨bv, 0, none⟩ = some (.pointer (some ⟨g, o, none⟩)) := b0
      have b1 : W.cell? ⟨bv, 1, none⟩ = some (.int .i64 0) := b1
      clear hF hgl hk8
      unfold fmAct
      gi_wp2_with (first | (refine ⟨trivial, ?_⟩; gi_at_call 19; refine (CallsIn.inRound l (callsIn_wide.2 HT.out)).mono ?_; rintro e W1 ⟨rfl, hb1⟩; have HB1 := Lib.hid hb1; clear hb1) | (refine ⟨trivial, ?_⟩; gi_at_call 18; refine (CallsIn.inRound l (callsIn_wide.2 (HF.out _))).mono ?_; rintro e W2 ⟨rfl, hb2⟩; have HB2 := Lib.hid (HB1.out.trans hb2); clear hb2) | (refine ⟨trivial, ?_⟩; gi_at_call 17; refine (CallsIn.inRound l (callsIn_wide.2 (write_c (HI.out.2.1.bel HB2.out) HFD.out HLN.out (Nat.le_trans HI.out.1.size HB2.out.size)))).mono ?_; rintro e W3 ⟨rfl, hu3, hb3, hk3⟩; have HU3 := Lib.hid hu3; have HB3 := Lib.hid hb3; have HK3 := Lib.hid hk3; clear hu3 hb3 hk3))
      exact ⟨(bel_keeps HB2.out _).trans (HK3.out _), _, rfl, Below.trans (HI.out.1.trans HB2.out) HB3.out, by rw [HSN.out]; exact HU3.out, fun h => (HNIL.out h).elim⟩
    · -- between the Body and the Else
      have b0 : W.cell? ⟨bv, 0, none⟩ = some (.pointer (some ⟨g, o, none⟩)) := Blk.cell (show Blk W bv 46 [.pointer (some ⟨g, o, none⟩), .int .i64 1] from hbv) 0
      have b1 : W.cell? ⟨bv, 1, none⟩ = some (.int .i64 1) := Blk.cell (show Blk W bv 46 [.pointer (some ⟨g, o, none⟩), .int .i64 1] from hbv) 1
      have ho : (⟨g, o, t, 1⟩ : Vis).out = if t.e then fmt elT else [] := rfl
      rw [ho] at HLN HSN
      obtain ⟨_, _, _, _, _, c5, _⟩ := HC.out.all
      cases he : t.e with
      | false =>
        rw [he] at c5 HLN HSN
        simp only [Bool.false_eq_true, if_false, List.append_nil] at HSN
        clear ho e1 e2 e3 e4 e5 e6 e7 e8 hbv hq he
        unfold fmAct
        gi_wp2_with fail
        refine ⟨trivial, ?_⟩
        gi_wp2_with fail
        exact ⟨KeepsFrom.refl _ _, _, rfl, HI.out.1, by rw [HSN.out]; exact HI.out.2.1, fun h => (HNIL.out h).elim⟩
      | true =>
        rw [he, if_pos rfl] at HSN HLN
        rw [he] at c5
        obtain ⟨F, hF⟩ : ∃ F, F = ofL (fmt elT) := ⟨_, rfl⟩
        have HF := fun W => format_c elT (by decide) (by decide) (by decide) W
        rw [← hF] at HF
        have HF := Lib.hid HF
        have HFD := Lib.hid hF
        clear ho e1 e2 e3 e4 e5 e6 e7 e8 hbv hq he hF
        unfold fmAct
        gi_wp2_with (first | (refine ⟨trivial, ?_⟩; gi_at_call 18; refine (CallsIn.inRound l (callsIn_wide.2 (HF.out _))).mono ?_; rintro e W2 ⟨rfl, hb2⟩; have HB2 := Lib.hid hb2; clear hb2) | (refine ⟨trivial, ?_⟩; gi_at_call 17; refine (CallsIn.inRound l (callsIn_wide.2 (write_c (HI.out.2.1.bel HB2.out) HFD.out HLN.out (Nat.le_trans HI.out.1.size HB2.out.size)))).mono ?_; rintro e W3 ⟨rfl, hu3, hb3, hk3⟩; have HU3 := Lib.hid hu3; have HB3 := Lib.hid hb3; have HK3 := Lib.hid hk3; clear hu3 hb3 hk3))
        exact ⟨(bel_keeps HB2.out _).trans (HK3.out _), _, rfl, Below.trans (HI.out.1.trans HB2.out) HB3.out, by rw [HSN.out]; exact HU3.out, fun h => (HNIL.out h).elim⟩
    · -- behind both
      have b0 : W.cell? ⟨bv, 0, none⟩ = some (.pointer (some ⟨g, o, none⟩)) := Blk.cell (show Blk W bv 46 [.pointer (some ⟨g, o, none⟩), .int .i64 2] from hbv) 0
      have b1 : W.cell? ⟨bv, 1, none⟩ = some (.int .i64 2) := Blk.cell (show Blk W bv 46 [.pointer (some ⟨g, o, none⟩), .int .i64 2] from hbv) 1
      have ho : (⟨g, o, t, 2⟩ : Vis).out = if blkI t.k then fmt edT else [] := rfl
      rw [ho] at HLN HSN
      obtain ⟨c0, _⟩ := HC.out.all
      have HPB := Lib.hid (fun W => pblock_c t.k W)
      cases he : blkI t.k with
      | false =>
        rw [he] at HLN HSN HPB
        simp only [Bool.false_eq_true, if_false, List.append_nil] at HSN
        clear ho e1 e2 e3 e4 e5 e6 e7 e8 hbv hq he
        unfold fmAct
        gi_wp2_with (refine ⟨trivial, ?_⟩; gi_at_call 20; refine (CallsIn.inRound l (callsIn_wide.2 (HPB.out _))).mono ?_; rintro e W2 ⟨rfl, rfl⟩)
        exact ⟨KeepsFrom.refl _ _, _, rfl, HI.out.1, by rw [HSN.out]; exact HI.out.2.1, fun h => (HNIL.out h).elim⟩
      | true =>
        rw [he, if_pos rfl] at HSN HLN
        rw [he] at HPB
        obtain ⟨F, hF⟩ : ∃ F, F = ofL (fmt edT) := ⟨_, rfl⟩
        have HF := fun W => format_c edT (by decide) (by decide) (by decide) W
        rw [← hF] at HF
        have HF := Lib.hid HF
        have HFD := Lib.hid hF
        clear ho e1 e2 e3 e4 e5 e6 e7 e8 hbv hq he hF
        unfold fmAct
        gi_wp2_with (first | (refine ⟨trivial, ?_⟩; gi_at_call 20; refine (CallsIn.inRound l (callsIn_wide.2 (HPB.out _))).mono ?_; rintro e W2 ⟨rfl, rfl⟩) | (refine ⟨trivial, ?_⟩; gi_at_call 18; refine (CallsIn.inRound l (callsIn_wide.2 (HF.out _))).mono ?_; rintro e W2 ⟨rfl, hb2⟩; have HB2 := Lib.hid hb2; clear hb2) | (refine ⟨trivial, ?_⟩; gi_at_call 17; refine (CallsIn.inRound l (callsIn_wide.2 (write_c (HI.out.2.1.bel HB2.out) HFD.out HLN.out (Nat.le_trans HI.out.1.size HB2.out.size)))).mono ?_; rintro e W3 ⟨rfl, hu3, hb3, hk3⟩; have HU3 := Lib.hid hu3; have HB3 := Lib.hid hb3; have HK3 := Lib.hid hk3; clear hu3 hb3 hk3))
        exact ⟨(bel_keeps HB2.out _).trans (HK3.out _), _, rfl, Below.trans (HI.out.1.trans HB2.out) HB3.out, by rw [HSN.out]; exact HU3.out, fun h => (HNIL.out h).elim⟩
  case done =>
    rintro D s W hD rfl hI hK
    have HST := Lib.hid (bstring_c hI.2.1 hI.1.size)
    have HI := Lib.hid hI
    have HK := Lib.hid hK
    clear hI hK
    have hDD : w.heap.size + 2 ≤ D := by simpa using hD
    clear hD
    go_wp2_with (go_at_call 21; refine HST.out.mono ?_; rintro e W1 ⟨rfl, hb1, hk1⟩; have HB1 := Lib.hid hb1; have HD1 := Lib.hid (hk1 D _ HK.out (fun e => by injection e with e; omega) (fun _ _ e => by cases e)); clear hb1 hk1)
    refine ⟨by simp, .inl ⟨_, _, rfl, run_takeDeferred HD1.out, ?_⟩⟩
    exact ⟨_, results_tmp rfl _ _ _, rfl, bel_put (Below.trans HI.out.1 HB1.out) HD1.out (by omega)⟩
  case stop =>
    rintro D c' W _ h _
    exact h.elim
end Go.Proofs.Ythbcjljkpnkakaa
