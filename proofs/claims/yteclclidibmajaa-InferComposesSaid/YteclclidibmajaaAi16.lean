/-
  The program of layer 16: After and Infer.
-/
import Derived.Test.YteclclidibmajaaAl16
import Derived.Test.YteclclidibmajaaRi16
namespace Go.Proofs.Yteclclidibmajaa
open Go.RowKit Go.BigFrame NT
set_option linter.unusedVariables false
set_option linter.unusedSimpArgs false
set_option maxRecDepth 100000

theorem Bel.trans_below {w w1 w2 : World} (h : Bel w w1) (h2 : Below w.heap.size w1 w2) : Bel w w2 := Below.trans h h2
/-- What After answers. -/
def AQ (r : IR) (t : HS) (a k : Int) : Prop := match r with
  | .ok s _ => t = s ∧ a = 0 ∧ k = 0
  | .no a' k' => t = s0 0 ∧ a = a' ∧ k = (k' : Nat) ∧ k' ≠ 0
def AfP (r : IR) (w : World) (e : Ending) (w' : World) : Prop := Bel w w' ∧ ∃ t a k, e = .returned (.tuple #[.agg #[.int .i64 (t.c : Nat), .string (ofL t.n), .string (ofL t.a), .string (ofL t.p)], .int .i64 a, .int .i64 k]) ∧ Hid (AQ r t a k)
theorem PQ.aq {r : IR} {done : List Nat} {t : HS} {a k : Int} {es : List Nat} (h : PQ r done t a k es) : AQ r t a k := by
  cases r with
  | ok s e => exact ⟨h.1, h.2.1, h.2.2.1⟩
  | no a' k' => exact h
theorem an_new (w w1 : World) (h : w.heap.size ≤ w1.heap.size) : An w.heap.size w1.heap.size (w1.alloc (.cells #[.slice none 0 0] 51)) none 0 0 [] :=
  ⟨Blk.new w1 51 [.slice none 0 0], rfl, RowAt.nil _ _, h, by simp [rowT]⟩
theorem af_set {f : Func} {p u v g : Nat} {tmps : Array Value} {w W : World} {r : IR} {a0 a1 a2 a3 v0 v1 v2 v3 : Value} {t : HS} {a k : Int}
    (hf : f.results = #[.cell p 34, .tmp u, .tmp v]) (hp : tmps.getD p undef = .pointer (some ⟨g, 0, none⟩)) (hu : tmps.getD u undef = .int .i64 a) (hv : tmps.getD v undef = .int .i64 k)
    (hB : Blk W g 34 [a0, a1, a2, a3]) (hg : w.heap.size ≤ g) (hb : Bel w W) (he : Value.agg #[v0, v1, v2, v3] = .agg #[.int .i64 (t.c : Nat), .string (ofL t.n), .string (ofL t.a), .string (ofL t.p)]) (hq : AQ r t a k) :
    bodyPost Try.prog f (AfP r w) .ret { tmps := tmps, defers := [] } ((((W.setCell ⟨g, 0, none⟩ v0).setCell ⟨g, 1, none⟩ v1).setCell ⟨g, 2, none⟩ v2).setCell ⟨g, 3, none⟩ v3) := by
  have h1 := (((hB.set_ 0 v0).set_ 1 v1).set_ 2 v2).set_ 3 v3
  simp only [List.set_cons_succ, List.set_cons_zero] at h1
  refine bodyPost_ret (results_row_tmp2_16 hf _ _ g _ _ (0, 0) _ hp h1 Try.underlying34 rfl (by kernel_rfl)) rfl ?_
  exact ⟨bel_on1 hb (only4p W g v0 v1 v2 v3) hg, t, a, k, by rw [← he, hu, hv], Lib.hid hq⟩
set_option maxHeartbeats 6400000 in
theorem after_c (s : HS) (hs : Inv s) {l : List NT} {X : Option Addr} {c0 : Nat} {w : World} (hX : Row w (Lt w) X c0 l) (ht : tots l ≤ 100000) :
    Calls Try.prog 12 #[.agg #[.int .i64 (s.c : Nat), .string (ofL s.n), .string (ofL s.a), .string (ofL s.p)], .slice X l.length c0] w (AfP (listI s l) w) := by
  have h2 : ((w.alloc (.cells #[.int .i64 (s.c : Nat), .string (ofL s.n), .string (ofL s.a), .string (ofL s.p)] 34)).alloc (.cells #[.int .i64 0, .string ⟨#[]⟩, .string ⟨#[]⟩, .string ⟨#[]⟩] 34)).heap.size = w.heap.size + 1 + 1 := by simp
  have HA := Lib.hid (an_new w ((w.alloc (.cells #[.int .i64 (s.c : Nat), .string (ofL s.n), .string (ofL s.a), .string (ofL s.p)] 34)).alloc (.cells #[.int .i64 0, .string ⟨#[]⟩, .string ⟨#[]⟩, .string ⟨#[]⟩] 34)) (by rw [h2]; omega))
  rw [h2] at HA
  have HB := Lib.hid (bel3_16 w (.cells #[.int .i64 (s.c : Nat), .string (ofL s.n), .string (ofL s.a), .string (ofL s.p)] 34) (.cells #[.int .i64 0, .string ⟨#[]⟩, .string ⟨#[]⟩, .string ⟨#[]⟩] 34) (.cells #[.slice none 0 0] 51))
  have HR := Lib.hid ((blk_at1h w (.cells #[.int .i64 (s.c : Nat), .string (ofL s.n), .string (ofL s.a), .string (ofL s.p)] 34) 34 [.int .i64 0, .string ⟨#[]⟩, .string ⟨#[]⟩, .string ⟨#[]⟩]).alloc (.cells #[.slice none 0 0] 51))
  have HC := Lib.hid (plist_c hX (w.heap.size + 1 + 1) s hs _ none 0 0 [] HB.out HA.out (by omega))
  clear hX ht hs h2
  generalize listI s l = r at HC ⊢
  go_enter Try.func12, Try.ntmps12
  go_wp2_with (go_at_call 18; ((with_reducible refine (HC.out).mono ?_); rintro e w2 ⟨t, a, k, A', n', c', es, rfl, hE, hQ⟩; have HR2 := Lib.hid (HA.out.keep hE.out.only HR.out (by decide) (by decide)); have HB2 := Lib.hid (show Bel w w2 from HB.out.trans_below (hE.out.below HA.out)); clear hE; obtain ⟨k0, k1, k2, k3⟩ := cells4 HR2.out; obtain ⟨y0, y1, y2, y3⟩ := frees4 HR2.out))
  refine af_set rfl rfl rfl rfl HR2.out (by omega) HB2.out (t := t) rfl ?_
  exact hQ.out.aq
set_option maxHeartbeats 6400000 in
theorem infer_c {l : List NT} {X : Option Addr} {c0 : Nat} {w : World} (hX : Row w (Lt w) X c0 l) (ht : tots l ≤ 100000) :
    Calls Try.prog 8 #[.slice X l.length c0] w (InP (inferI l) w) := by
  have HA := Lib.hid (an_new w w (Nat.le_refl _))
  have HB := Lib.hid (Bel.alloc w (.cells #[.slice none 0 0] 51))
  have HC := Lib.hid (show Calls Try.prog 18 #[.pointer (some ⟨w.heap.size, 0, none⟩), .agg #[.int .i64 0, .string ⟨#[]⟩, .string ⟨#[]⟩, .string ⟨#[]⟩], .slice X l.length c0] (w.alloc (.cells #[.slice none 0 0] 51)) (PP (listI (s0 0) l) [] w.heap.size w.heap.size (w.alloc (.cells #[.slice none 0 0] 51)) none) from plist_c hX w.heap.size (s0 0) Inv.init _ none 0 0 [] HB.out HA.out (by omega))
  have hln := hX.len
  have hgp := st_guard
  unfold inferI
  cases hr : listI (s0 0) l with
  | no a k =>
    rw [hr] at HC
    have he := listI_err hr
    have hk0 : (k : Int) ≠ 0 := by omega
    have hk1 : ((k : Int) != 0) = true := bne_iff_ne.2 hk0
    clear hr he hX ht
    go_enter Try.func8, Try.ntmps8
    go_wp2_with (go_at_call 18; ((with_reducible refine (HC.out).mono ?_); rintro e w2 ⟨t, a', k', A', n', c', es, rfl, hE, hQ⟩; obtain ⟨ht, rfl, rfl, hne⟩ := hQ.out; have HB2 := Lib.hid ((show Bel w w2 from HB.out.trans_below (hE.out.below HA.out)).trans (Bel.alloc w2 (.cells #[.int .i64 (t.c : Nat), .string (ofL t.n), .string (ofL t.a), .string (ofL t.p)] 34))); clear hE hQ hne ht))
    go_ret3
    exact InP.nil rfl HB2.out
  | ok s1 es1 =>
    rw [hr] at HC
    dsimp only
    cases hq : eqH s1 (s0 0) with
    | true =>
      have hcmp : ∀ W, (binOp .neq 34 (.agg #[.int .i64 (s1.c : Nat), .string (ofL s1.n), .string (ofL s1.a), .string (ofL s1.p)]) (.agg #[.int .i64 0, .string ⟨#[]⟩, .string ⟨#[]⟩, .string ⟨#[]⟩])).run Try.prog W = .ok (.bool false) W := fun W => by have h := pst_neq s1 (s0 0) W; rw [hq] at h; exact h
      clear hq hr hX ht
      rw [if_pos rfl]
      go_enter Try.func8, Try.ntmps8
      go_wp2_with (go_at_call 18; ((with_reducible refine (HC.out).mono ?_); rintro e w2 ⟨t, a', k', A', n', c', es, rfl, hE, hQ⟩; obtain ⟨rfl, rfl, rfl, hes⟩ := hQ.out; have HB2 := Lib.hid ((show Bel w w2 from HB.out.trans_below (hE.out.below HA.out)).trans (Bel.alloc w2 (.cells #[.int .i64 (t.c : Nat), .string (ofL t.n), .string (ofL t.a), .string (ofL t.p)] 34))); have HE2 := Lib.hid (hE.out.an.bel (Bel.alloc w2 (.cells #[.int .i64 (t.c : Nat), .string (ofL t.n), .string (ofL t.a), .string (ofL t.p)] 34))); rw [List.nil_append] at hes; subst hes; have d0 := HE2.out.blk.cell 0; clear hE hQ))
      go_ret3
      exact ⟨HB2.out, A', n', c', rfl, Lib.hid ⟨HE2.out.len, HE2.out.row, HE2.out.low⟩⟩
    | false =>
      have hcmp : ∀ W, (binOp .neq 34 (.agg #[.int .i64 (s1.c : Nat), .string (ofL s1.n), .string (ofL s1.a), .string (ofL s1.p)]) (.agg #[.int .i64 0, .string ⟨#[]⟩, .string ⟨#[]⟩, .string ⟨#[]⟩])).run Try.prog W = .ok (.bool true) W := fun W => by have h := pst_neq s1 (s0 0) W; rw [hq] at h; exact h
      have hne : l ≠ [] := by
        rintro rfl
        rw [listI_nil] at hr
        injection hr with h1 h2
        rw [← h1, eqH_self] at hq
        cases hq
      obtain ⟨x, hx, hxa⟩ := last_of hne
      obtain ⟨n, hn⟩ : ∃ n, n = l.length := ⟨_, rfl⟩
      have hn1 : 0 < n := by rw [hn]; exact List.length_pos_iff.2 hne
      obtain ⟨j, hj⟩ : ∃ j, j = l.length - 1 := ⟨_, rfl⟩
      rw [← hj] at hx
      obtain ⟨g, o, rfl, hg, ha⟩ := hX.cells hx
      rw [hxa, if_neg (by decide)]
      rw [← hn] at hj hln HC ⊢
      have hi1 : IntKind.i64.wrap ((n : Int) - 1) = (j : Int) := (IntWalk.i64_in _ (by omega)).trans (by omega)
      have hi2 : (n : Int) - 1 = (j : Int) := by omega
      have hi3 : j < n := by omega
      have HAA := Lib.hid ha
      clear hq hr hX ht hx hxa hn hne ha hj
      go_enter Try.func8, Try.ntmps8
      go_wp2_with (go_at_call 18; ((with_reducible refine (HC.out).mono ?_); rintro e w2 ⟨t, a', k', A', n', c', es, rfl, hE, hQ⟩; obtain ⟨rfl, rfl, rfl, hes⟩ := hQ.out; have HB2 := Lib.hid ((show Bel w w2 from HB.out.trans_below (hE.out.below HA.out)).trans (Bel.alloc w2 (.cells #[.int .i64 (t.c : Nat), .string (ofL t.n), .string (ofL t.a), .string (ofL t.p)] 34))); clear hE hQ hes))
      refine region_begin (T := []) (by kernel_rfl) ?_
      have HBd := Lib.hid (HB2.out.trans (Bel.drew _))
      generalize (World.alloc w2 _).drew = W at HBd ⊢
      have b1 := fun X : Later [] W => (HAA.out X.w (HBd.out.trans (bel_of_only X.h))).2.1
      refine region_seg [true, true, true, true, true, true, true, true, true, true] 0 (by kernel_rfl) (by kernel_rfl) (by kernel_rfl) rfl (fun _ _ d _ _ h => by cases d <;> exact h) ?_
      repeat (first | with_reducible refine wpMask_pass ?_ | (refine wpMask_want (by rfl) (fun K hK => ?_); go_big_quiet_op; refine hK _ ?_; clear hK K))
      with_reducible refine wpMask_nil ?_
      refine region_end (by kernel_rfl) ?_
      go_wp2_with fail
      go_ret3
      exact InP.nil rfl HBd.out
end Go.Proofs.Yteclclidibmajaa
