/-
  Contract: the program's list, out of its node.
  Contracts: what the program's Parse defers, where it panicked and where it did not.
-/
import Derived.Test.YthbcjljkpnkakaaDoorPd12
import Derived.Test.YthbcjljkpnkakaaDoorRegion2
import Derived.Test.YthbcjljkpnkakaaDoorPure12
namespace Go.Proofs.YthbcjljkpnkakaaDoor
open Go.RowKit Go.BigFrame NT
set_option linter.unusedVariables false
set_option linter.unusedSimpArgs false

/-- How many tokens are left, as the parser's cell says it. -/
def leftQ (g : Nat) (w : World) : Nat := match w.cell? ⟨g, 0, none⟩ with
  | some (.slice _ n _) => n
  | _ => 0
theorem leftQ_eq {g n c : Nat} {A : Option Addr} {w : World} (h : w.cell? ⟨g, 0, none⟩ = some (.slice A n c)) : leftQ g w = n := by
  unfold leftQ; rw [h]
/-- The state of the loop. -/
structure LqAt (g : Nat) (A : Option Addr) (ts : List Tok) (w : World) (d c : Nat) (wr : World) (B : Option Addr) (q cB : Nat) (done : List NT) (A' : Option Addr) (cA' : Nat) (tr : List Tok) (cr : Nat) : Prop where
  ps : Pq wr g A' cA' tr cr
  same : rowT A' = rowT A
  row : KRow wr 53 8 NT.cs B cB done
  len : done.length = q
  few : q + tr.length ≤ ts.length
  fresh : ∀ b, b ∈ rowT B → w.heap.size ≤ b
  deep : ∀ x, x ∈ done → x.In wr (fun b => w.heap.size ≤ b ∧ b < wr.heap.size ∧ b ∉ rowT B)
  only : Only [g] w wr
  val : P ts 2 false d c = PR.pre (ers done) (P tr 2 false d cr)
  suf : ∃ k, tr = ts.drop k
theorem LqAt.row_ {g : Nat} {A : Option Addr} {ts : List Tok} {w : World} {d c : Nat} {wr : World} {B : Option Addr} {q cB : Nat} {done : List NT} {A' : Option Addr} {cA' : Nat} {tr : List Tok} {cr : Nat} (h : LqAt g A ts w d c wr B q cB done A' cA' tr cr) (hj : ts.length ≤ 100000) : Row wr (Fr w wr) B cB done :=
  NT.row_of h.row (by have := h.len; have := h.few; omega) (fun b hb => ⟨h.fresh b hb, h.row.lt b hb⟩) (fun x hx => (h.deep x hx).same (fun b hb => ⟨hb.1, hb.2.1⟩) (fun _ _ _ => rfl))
theorem LqAt.push {g : Nat} {A : Option Addr} {ts : List Tok} {w : World} {d c : Nat} {V w1 w4 : World} {B B2 : Option Addr} {q cB c2 : Nat} {done : List NT} {A' A2 : Option Addr} {cA' cA2 : Nat} {t : Tok} {r r' : List Tok} {cr c' : Nat} {x y : NT} {o1 : Obj}
    (h : LqAt g A ts w d c V B q cB done A' cA' (t :: r) cr) (h7 : t.k ≠ 7) (h8 : t.k ≠ 8) (hd : d ≤ 32) (hcr : cr ≤ 4096) (hg : g < w.heap.size) (hO : Only [g] V w1) (he : y.er = x) (hy : y.In w1 (Fr V w1)) (hP : Pq w1 g A2 cA2 r' c') (hA2 : rowT A2 = rowT A') (hr' : ∃ k, r' = r.drop k) (hNX : NX t r d cr = .ok (x, r', c'))
    (hR : KRow w4 53 8 NT.cs B2 c2 (done ++ [y])) (hO4 : Only (rowT B) (w1.alloc o1) w4) (hK : ∀ k, k ∈ rowT B2 → k ∈ rowT B ∨ k = (w1.alloc o1).heap.size) (hL : ∀ k, k ∈ rowT A → k < w.heap.size) :
    LqAt g A ts w d c w4 B2 (q + 1) c2 (done ++ [y]) A2 cA2 r' c' ∧ c' ≤ 4096 ∧ r'.length < (t :: r).length := by
  have hgd := nx_good hNX hcr hd
  have hlen := hgd.1
  have hVw : w.heap.size ≤ V.heap.size := h.only.size
  have hV1 : V.heap.size ≤ w1.heap.size := hO.size
  have hsz2 : (w1.alloc o1).heap.size = w1.heap.size + 1 := by simp
  have h4s : w1.heap.size + 1 ≤ w4.heap.size := by have := hO4.size; omega
  have hAf := h.fresh
  have hAl := h.row.lt
  have hO2 : Only [g] V (w1.alloc o1) := hO.alloc o1
  have hO3 : Only (rowT B) w1 w4 := ((Only.refl (rowT B) w1).alloc o1).trans hO4
  have key : ∀ b, w.heap.size ≤ b → b < w1.heap.size → b ∉ rowT B → b ∉ rowT B2 := by
    intro b h1 h2 h3 h4
    rcases hK b h4 with h5 | h5
    · exact h3 h5
    · omega
  refine ⟨⟨?_, hA2.trans h.same, hR, by rw [List.length_append, h.len]; rfl, by have := h.few; simp only [List.length_cons] at this; omega, ?_, ?_, ?_, ?_, ?_⟩, hgd.2, by simp; omega⟩
  · refine hP.only hO3 (fun hk => by have := hAf g hk; omega) (fun k hk hk2 => by rw [hA2, h.same] at hk; have := hL k hk; have := hAf k hk2; omega)
  · intro b hb
    rcases hK b hb with h5 | h5
    · exact hAf b h5
    · omega
  · intro z hz
    rcases List.mem_append.1 hz with hz | hz
    · have h1 := (h.deep z hz).onlyS (Q' := fun b => w.heap.size ≤ b ∧ b < V.heap.size ∧ b ∉ rowT B) hO (fun b hb => ⟨by simp; omega, hb.2.1⟩) (fun b hb => hb)
      exact h1.onlyS hO3 (fun b hb => ⟨hb.2.2, by omega⟩) (fun b hb => ⟨hb.1, by omega, key b hb.1 (by omega) hb.2.2⟩)
    · simp at hz; subst hz
      refine hy.onlyS hO3 (fun b hb => ⟨fun hk => by have := hAl b hk; have := hb.1; omega, hb.2⟩) (fun b hb => ⟨by have := hb.1; omega, by have := hb.2; omega, key b (by have := hb.1; omega) hb.2 (fun hk => by have := hAl b hk; have := hb.1; omega)⟩)
  · exact (h.only.trans hO2).join hO4 (fun k hk => .inr (hAf k hk))
  · rw [h.val, P_nx h7 h8, hNX]
    dsimp only
    rw [pre_cons, ers_snoc, he]
  · obtain ⟨k1, e1⟩ := h.suf
    obtain ⟨k2, e2⟩ := hr'
    exact ⟨k1 + 1 + k2, by rw [e2, tail_of e1, List.drop_drop]⟩
theorem LqAt.done_ {g : Nat} {A : Option Addr} {ts : List Tok} {w : World} {d c : Nat} {W : World} {B : Option Addr} {q cB : Nat} {done : List NT} {A' : Option Addr} {cA' : Nat} {tr : List Tok} {cr : Nat} (h : LqAt g A ts w d c W B q cB done A' cA' tr cr) (hr : P tr 2 false d cr = .ok ([], tr, cr)) (hj : ts.length ≤ 100000) :
    ListPq g A ts w (P ts 2 false d c) (.returned (.slice B q cB)) W := by
  rw [h.val, hr]
  exact ⟨h.only, B, cB, done, by simp, h.row_ hj, by rw [h.len], ⟨A', cA', h.ps, h.same⟩, h.suf⟩
theorem LqAt.fault {g : Nat} {A : Option Addr} {ts : List Tok} {w : World} {d c : Nat} {W W2 : World} {B : Option Addr} {q cB : Nat} {done : List NT} {A' : Option Addr} {cA' : Nat} {tr : List Tok} {cr a k : Nat} (h : LqAt g A ts w d c W B q cB done A' cA' tr cr) (hr : P tr 2 false d cr = .error (a, k)) (hO : Only [g] w W2) :
    ListPq g A ts w (P ts 2 false d c) (pan a k) W2 := by
  rw [h.val, hr]
  exact ⟨hO, rfl⟩
set_option maxRecDepth 100000 in
set_option maxHeartbeats 6400000 in
theorem plist_of {g m : Nat} (IN : ∀ n, n < m → NodeQ g n) : ListQ g m := by
  intro A cA ts d c w hP hG hlen hd hc
  have hgl := hP.blk.lt
  have HRT : Hid (∀ k, k ∈ rowT A → k < w.heap.size) := Lib.hid (fun k hk => hP.row.lt k hk)
  have HIN := Lib.hid (fun (A' : Option Addr) (cA' : Nat) (t : Tok) (r : List Tok) (cr : Nat) (W : World) (h1 : Pq W g A' cA' (t :: r) cr) (h2 : TsOk (t :: r)) (h3 : (t :: r).length ≤ ts.length) (h4 : cr ≤ 4096) => IN r.length (by simp at h3; omega) A' cA' t r d cr W h1 h2 (Nat.le_refl _) hd h4)
  have HST : Hid (LqAt g A ts w d c w none 0 0 [] A cA ts c) := Lib.hid ⟨hP, rfl, KRow.nil _ _ _ _, rfl, by omega, by simp [rowT], (fun x hx => by cases hx), Only.refl _ _, by simp [ers, pre_nil], 0, by simp⟩
  have HGT := Lib.hid hG
  have hN7 : ts.length ≤ 70000 := hG.1
  clear hP IN hG
  go_enter Tryd.func19, Tryd.ntmps19
  go_wp2_with fail
  go_loopw [5] (fun s5 wr => ∃ (B : Option Addr) (q cB : Nat) (done : List NT) (A' : Option Addr) (cA' : Nat) (tr : List Tok) (cr : Nat), s5 = .slice B q cB ∧ cr ≤ 4096 ∧ Hid (LqAt g A ts w d c wr B q cB done A' cA' tr cr)) (fun _ wr => leftQ g wr)
  case atStart => exact ⟨none, 0, 0, [], A, cA, ts, c, rfl, hc, HST⟩
  case round =>
    obtain ⟨B, q, cB, done, A', cA', tr, cr, rfl, hcr, HLI⟩ := hrel
    have HLF : Hid (leftQ g wr = tr.length) := Lib.hid (leftQ_eq HLI.out.ps.cells.1)
    obtain ⟨q0, q1⟩ := HLI.out.ps.cells
    cases tr with
    | nil =>
      simp only [List.length_nil] at q0
      go_wp2_with fail
      go_ret
      exact HLI.out.done_ rfl (by omega)
    | cons t r =>
      have hts : TsOk (t :: r) := by obtain ⟨k, hk⟩ := HLI.out.suf; rw [hk]; exact HGT.out.drop k
      have HTS := Lib.hid hts
      obtain ⟨g1, o1, hA', hg1, c0, c1, c2, c3, c4⟩ := HLI.out.ps.tok
      subst hA'
      simp only [List.length_cons] at q0
      have hrl : r.length + 1 ≤ 70000 := hts.1
      have hlen1 : (0 : Int) < (r.length : Int) + 1 := by omega
      clear hts
      by_cases h7 : t.k = 7
      · have k7 : ((t.k : Int) != 7) = false := by rw [h7]; rfl
        have HK7 := Lib.hid h7
        clear h7
        go_wp2_with fail
        go_ret
        exact HLI.out.done_ (by rw [P_else HK7.out, if_pos ⟨rfl, rfl⟩]) (by omega)
      have k7 : ((t.k : Int) != 7) = true := bne_iff_ne.2 (by omega)
      by_cases h8 : t.k = 8
      · have k8 : ((t.k : Int) != 8) = false := by rw [h8]; rfl
        have HK8 := Lib.hid h8
        clear h8 h7
        go_wp2_with fail
        go_ret
        exact HLI.out.done_ (by rw [P_end HK8.out, if_neg (by decide)]) (by omega)
      have k8 : ((t.k : Int) != 8) = true := bne_iff_ne.2 (by omega)
      have hfew := HLI.out.few
      go_wp2_with fail
      refine (HIN.out _ cA' t r cr wr HLI.out.ps HTS.out (by omega) hcr).mono ?_
      rintro e w1 ⟨hO, hp⟩
      have HO1 := Lib.hid hO
      cases hnx : NX t r d cr with
      | error ak =>
        obtain ⟨a, k⟩ := ak
        rw [hnx] at hp
        dsimp only at hp
        subst hp
        have HNX := Lib.hid hnx
        clear hnx hO
        go_wp2_with fail
        refine ⟨rfl, ?_⟩
        exact HLI.out.fault (by rw [P_nx h7 h8, HNX.out]) (HLI.out.only.trans HO1.out)
      | ok x =>
        obtain ⟨x, r', c'⟩ := x
        rw [hnx] at hp
        obtain ⟨y, he, hy, rfl, ⟨A2, cA2, hP2, hA2⟩, hr'⟩ := hp
        have HNX := Lib.hid hnx
        have HE := Lib.hid he
        have HY := Lib.hid hy
        have HP2 := Lib.hid hP2
        have HA2 := Lib.hid hA2
        have HR' := Lib.hid hr'
        have HQL := Lib.hid HLI.out.len
        have hq5 : q ≤ 70000 := by omega
        have HAL := Lib.hid ((HLI.out.row.only hO (fun k hk => by have := HLI.out.fresh k hk; simp; omega)).alloc (.cells #[.int .i64 y.k, .int .i64 y.a, .string y.s, .string y.p, .bool y.h, .bool y.e, .slice y.A y.b.length y.c, .slice y.B y.l.length y.d] 53))
        have HTX : Hid ([.int .i64 y.k, .int .i64 y.a, .string y.s, .string y.p, .bool y.h, .bool y.e, .slice y.A y.b.length y.c, .slice y.B y.l.length y.d] = y.cs) := Lib.hid rfl
        have HBK := Lib.hid (Blk.new w1 53 [.int .i64 y.k, .int .i64 y.a, .string y.s, .string y.p, .bool y.h, .bool y.e, .slice y.A y.b.length y.c, .slice y.B y.l.length y.d])
        clear hnx he hy hP2 hA2 hr' hO
        go_wp2_with ((with_reducible refine wp_ndL rfl (.tmp 32) (.tmp 36) rfl B q cB done HQL.out rfl HAL.out w1.heap.size _ _ HTX.out rfl HBK.out (by omega) ?_); intro B2 c2 w4 HR4 HO4 HK4; have HPU := Lib.hid (HLI.out.push h7 h8 hd hcr hgl HO1.out HE.out HY.out HP2.out HA2.out HR'.out HNX.out HR4.out HO4.out HK4.out HRT.out); clear HR4 HO4 HK4)
        have HLN : Hid (leftQ g w4 = r'.length) := Lib.hid (leftQ_eq HPU.out.1.ps.cells.1)
        have hlt := HPU.out.2.2
        have hc'4 := HPU.out.2.1
        have HPL := Lib.hid HPU.out.1
        go_roundw
        case rel => exact ⟨B2, q + 1, c2, _, A2, cA2, r', c', by go_num, hc'4, HPL⟩
        case measure => rw [HLN.out, HLF.out]; exact hlt
end Go.Proofs.YthbcjljkpnkakaaDoor

namespace Go.Proofs.YthbcjljkpnkakaaDoor
open Go.RowKit Go.BigFrame NT
set_option linter.unusedVariables false
set_option linter.unusedSimpArgs false

theorem assert_flt (a k : Nat) (w : World) : (Instr.typeAssert (.iface 60 (.agg #[.int .i64 a, .int .i64 k])) 20 60 true).run Tryd.prog w = .ok (.tuple #[.agg #[.int .i64 a, .int .i64 k], .bool true]) w := by kernel_rfl
theorem assert_nil (w : World) : (Instr.typeAssert .nilIface 20 60 true).run Tryd.prog w = .ok (.tuple #[.agg #[.int .i64 0, .int .i64 0], .bool false]) w := by kernel_rfl
set_option maxRecDepth 100000 in
set_option maxHeartbeats 3200000 in
theorem catch_c (b1 b2 b3 a k : Nat) (v1 v2 v3 : Value) (older : List PanicEntry) (w : World) (h1 : Blk w b1 22 [v1]) (h2 : Blk w b2 3 [v2]) (h3 : Blk w b3 25 [v3]) (n12 : b1 ≠ b2) (n13 : b1 ≠ b3) (n23 : b2 ≠ b3) :
    CallsD Tryd.prog 18 #[.pointer (some ⟨b1, 0, none⟩), .pointer (some ⟨b2, 0, none⟩), .pointer (some ⟨b3, 0, none⟩)] (.panicking ({ v := .iface 60 (.agg #[.int .i64 a, .int .i64 k]), recovered := false } :: older)) w fun e u' w' =>
      e = .returned (.tuple #[]) ∧ u' = .panicking ({ v := .iface 60 (.agg #[.int .i64 a, .int .i64 k]), recovered := true } :: older) ∧ Only [b1, b2, b3] w w' ∧
        Blk w' b1 22 [.slice none 0 0] ∧ Blk w' b2 3 [.int .i64 a] ∧ Blk w' b3 25 [.int .i64 k] := by
  refine callsD_of_wpS Tryd.func18 rfl fun c₀ cs hu => ?_
  simp only [Tryd.ntmps18, List.size_toArray, List.length_cons, List.length_nil, Nat.reduceAdd, Nat.reduceSub, Array.replicate_succ, Array.replicate_zero, List.push_toArray, List.append_toArray, List.nil_append, List.cons_append]
  apply wpS_seq
  refine wpS_region_recover (cs' := { c₀ with mode := .panicking ({ v := .iface 60 (.agg #[.int .i64 a, .int .i64 k]), recovered := true } :: older) } :: cs) rfl (by rfl) (by rfl) (.iface 60 (.agg #[.int .i64 a, .int .i64 k])) (.inl (by simp only [recoverD, hu])) ?_
  simp only [Act.put, List.setIfInBounds_toArray, List.set_cons_zero, List.set_cons_succ]
  have hta := assert_flt a k
  go_wp2_with fail
  simp only [Exit.thenS]
  refine wpS_of_wp ?_
  clear hta
  have HW := Lib.hid (Blk.new w 60 [.int .i64 a, .int .i64 k]).drew
  have H1 := Lib.hid (h1.alloc (.cells #[.int .i64 a, .int .i64 k] 60)).drew
  have H2 := Lib.hid (h2.alloc (.cells #[.int .i64 a, .int .i64 k] 60)).drew
  have H3 := Lib.hid (h3.alloc (.cells #[.int .i64 a, .int .i64 k] 60)).drew
  have hn1 : ¬ w.heap.size = b1 := by have := h1.lt; omega
  have hn2 : ¬ w.heap.size = b2 := by have := h2.lt; omega
  have hn3 : ¬ w.heap.size = b3 := by have := h3.lt; omega
  have HO : Hid (Only [b1, b2, b3] w (w.alloc (.cells #[.int .i64 a, .int .i64 k] 60)).drew) := Lib.hid (((Only.refl _ _).alloc _).drew)
  clear h1 h2 h3
  go_wp2_with fail
  refine region_begin (T := [b1, b2, b3]) (by kernel_rfl) ?_
  generalize (w.alloc (.cells #[.int .i64 a, .int .i64 k] 60)).drew = W at HW H1 H2 H3 HO ⊢
  have p0 : ∀ X : Later [b1, b2, b3] W, X.w.cell? ⟨w.heap.size, 0, none⟩ = some (.int .i64 a) := fun X => (HW.out.only X.h (by simp; exact ⟨hn1, hn2, hn3⟩)).cell 0
  have p1 : ∀ X : Later [b1, b2, b3] W, X.w.cell? ⟨w.heap.size, 1, none⟩ = some (.int .i64 k) := fun X => (HW.out.only X.h (by simp; exact ⟨hn1, hn2, hn3⟩)).cell 1
  refine region_seg [true, true, true, true] 3 (by kernel_rfl) (by kernel_rfl) (by kernel_rfl) rfl (fun _ _ d _ _ h => by cases d <;> exact h) ?_
  repeat (first | with_reducible refine wpMask_pass ?_ | (refine wpMask_want (by rfl) (fun K hK => ?_); go_big_quiet_op; refine hK _ ?_; clear hK K))
  with_reducible refine wpMask_nil ?_
  clear p0 p1
  have x1 := H1.out.cell 0
  have y1 := H1.out.free 0
  simp only [List.getElem?_cons_zero] at x1
  refine region_store (w1 := W.setCell ⟨b1, 0, none⟩ (.slice none 0 0)) 4 (by kernel_rfl) rfl (by rfl) (by go_simp) ((Only.refl _ _).setCell (.inl (by simp)) _) ?_
  simp only [List.getElem_toArray, List.getElem_cons_zero, List.getElem_cons_succ, Act.put, List.setIfInBounds_toArray, List.set_cons_zero, List.set_cons_succ]
  have K1 := Lib.hid (H1.out.set_ 0 (.slice none 0 0))
  have K2 := Lib.hid (H2.out.far (p := ⟨b1, 0, none⟩) (fun h => n12 h.symm) (.slice none 0 0))
  have K3 := Lib.hid (H3.out.far (p := ⟨b1, 0, none⟩) (fun h => n13 h.symm) (.slice none 0 0))
  have KO := Lib.hid (HO.out.setCell (p := ⟨b1, 0, none⟩) (.inl (by simp)) (.slice none 0 0))
  clear x1 y1 H1 H2 H3 HO HW
  generalize W.setCell ⟨b1, 0, none⟩ (.slice none 0 0) = W1 at K1 K2 K3 KO ⊢
  have x1 := K2.out.cell 0
  have y1 := K2.out.free 0
  simp only [List.getElem?_cons_zero] at x1
  refine region_store (w1 := W1.setCell ⟨b2, 0, none⟩ (.int .i64 a)) 5 (by kernel_rfl) rfl (by rfl) (by go_simp) ((Only.refl _ _).setCell (.inl (by simp)) _) ?_
  simp only [List.getElem_toArray, List.getElem_cons_zero, List.getElem_cons_succ, Act.put, List.setIfInBounds_toArray, List.set_cons_zero, List.set_cons_succ]
  have H1 := Lib.hid (K1.out.far (p := ⟨b2, 0, none⟩) n12 (.int .i64 a))
  have H2 := Lib.hid (K2.out.set_ 0 (.int .i64 a))
  have H3 := Lib.hid (K3.out.far (p := ⟨b2, 0, none⟩) (fun h => n23 h.symm) (.int .i64 a))
  have HO := Lib.hid (KO.out.setCell (p := ⟨b2, 0, none⟩) (.inl (by simp)) (.int .i64 a))
  clear x1 y1 K1 K2 K3 KO
  generalize W1.setCell ⟨b2, 0, none⟩ (.int .i64 a) = W2 at H1 H2 H3 HO ⊢
  have x1 := H3.out.cell 0
  have y1 := H3.out.free 0
  simp only [List.getElem?_cons_zero] at x1
  refine region_store (w1 := W2.setCell ⟨b3, 0, none⟩ (.int .i64 k)) 6 (by kernel_rfl) rfl (by rfl) (by go_simp) ((Only.refl _ _).setCell (.inl (by simp)) _) ?_
  simp only [List.getElem_toArray, List.getElem_cons_zero, List.getElem_cons_succ, Act.put, List.setIfInBounds_toArray, List.set_cons_zero, List.set_cons_succ]
  have K1 := Lib.hid (H1.out.far (p := ⟨b3, 0, none⟩) n13 (.int .i64 k))
  have K2 := Lib.hid (H2.out.far (p := ⟨b3, 0, none⟩) n23 (.int .i64 k))
  have K3 := Lib.hid (H3.out.set_ 0 (.int .i64 k))
  have KO := Lib.hid (HO.out.setCell (p := ⟨b3, 0, none⟩) (.inl (by simp)) (.int .i64 k))
  clear x1 y1 H1 H2 H3 HO
  generalize W2.setCell ⟨b3, 0, none⟩ (.int .i64 k) = W3 at K1 K2 K3 KO ⊢
  refine region_end (by kernel_rfl) ?_
  simp (config := {zetaDelta := true}) only [bodyPostS]
  exact ⟨trivial, _, rfl, _, results_none rfl _ _ _, rfl, rfl, KO.out, K1.out, K2.out, K3.out⟩
set_option maxRecDepth 100000 in
set_option maxHeartbeats 3200000 in
theorem catch_idle (b1 b2 b3 : Nat) (w : World) :
    CallsD Tryd.prog 18 #[.pointer (some ⟨b1, 0, none⟩), .pointer (some ⟨b2, 0, none⟩), .pointer (some ⟨b3, 0, none⟩)] .returning w fun e u' w' =>
      e = .returned (.tuple #[]) ∧ u' = .returning ∧ Bel w w' := by
  refine callsD_of_wpS Tryd.func18 rfl fun c₀ cs hu => ?_
  simp only [Tryd.ntmps18, List.size_toArray, List.length_cons, List.length_nil, Nat.reduceAdd, Nat.reduceSub, Array.replicate_succ, Array.replicate_zero, List.push_toArray, List.append_toArray, List.nil_append, List.cons_append]
  apply wpS_seq
  refine wpS_region_recover (cs' := c₀ :: cs) rfl (by rfl) (by rfl) .nilIface (.inr ⟨by simp only [recoverD, hu], rfl, rfl⟩) ?_
  simp only [Act.put, List.setIfInBounds_toArray, List.set_cons_zero, List.set_cons_succ]
  have hta := assert_nil
  go_wp2_with fail
  simp only [Exit.thenS]
  refine wpS_of_wp ?_
  clear hta
  have hB : Bel w (w.alloc (.cells #[.int .i64 0, .int .i64 0] 60)) := Bel.alloc _ _
  go_wp2_with fail
  have hc : c₀ :: cs = { c₀ with mode := .returning } :: cs := by rw [← hu]
  simp (config := {zetaDelta := true}) only [bodyPostS]
  exact ⟨trivial, _, hc, _, results_none rfl _ _ _, rfl, rfl, hB⟩
end Go.Proofs.YthbcjljkpnkakaaDoor
