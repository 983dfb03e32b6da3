/-
  The law InferComposes, walked.
-/
import Derived.Test.YteclclidibmajaaIm16
namespace Go.Proofs.Yteclclidibmajaa
open Go.RowKit Go.BigFrame NT
set_option linter.unusedVariables false
set_option linter.unusedSimpArgs false
set_option maxRecDepth 100000
attribute [local go_sem ↓] sliced_cut
attribute [local go_sem] cutA_zero

theorem u8_range16 {a : Int} (h : (Lit.int .u8 a).wf = true) : 0 ≤ a ∧ a ≤ 255 := by
  simp [Lit.wf, IntKind.min, IntKind.max, IntKind.signed, IntKind.bits] at h
  omega
theorem aq_same {r : IR} {e1 : List Nat} {t t3 : HS} {a k a3 k3 : Int} (h : AQ (r.next fun s2 e2 => .ok s2 (e1 ++ e2)) t a k) (h3 : AQ r t3 a3 k3) : t = t3 ∧ a = a3 ∧ k = k3 := by
  cases r with
  | ok s e =>
    obtain ⟨rfl, rfl, rfl⟩ := h
    obtain ⟨rfl, rfl, rfl⟩ := h3
    exact ⟨rfl, rfl, rfl⟩
  | no a' k' =>
    obtain ⟨rfl, rfl, rfl, _⟩ := h
    obtain ⟨rfl, rfl, rfl, _⟩ := h3
    exact ⟨rfl, rfl, rfl⟩
theorem ers_take (m : List NT) (k : Nat) : ers (m.take k) = (ers m).take k := by rw [ers_map, ers_map, List.map_take]
theorem ers_drop (m : List NT) (k : Nat) : ers (m.drop k) = (ers m).drop k := by rw [ers_map, ers_map, List.map_drop]
theorem tots_take16 (m : List NT) (k : Nat) : tots (m.take k) ≤ tots m := by
  have h : tots (m.take k ++ m.drop k) = tots m := by rw [List.take_append_drop]
  rw [tots_append] at h
  omega
theorem tots_drop16 (m : List NT) (k : Nat) : tots (m.drop k) ≤ tots m := by
  have h : tots (m.take k ++ m.drop k) = tots m := by rw [List.take_append_drop]
  rw [tots_append] at h
  omega
set_option maxHeartbeats 6400000 in
theorem coLaw (s : ByteArray) (a : Int) (w : World) (hs : s.size ≤ maxLen) (ha : (Lit.int .u8 a).wf = true) :
    Calls Try.prog 5 #[.string s, .int .u8 a] w fun e w' => e = .returned (.bool true) ∧ Below w.heap.size w w' := by
  obtain ⟨h0, h1⟩ := u8_range16 ha
  obtain ⟨l1, hl1, hP1⟩ := parsed_ex s
  have hn5 : l1.length ≤ 5000 := by have h1 := cnts_le_len l1; have h2 := cnts_le l1; have h3 := hl1.tots; omega
  obtain ⟨n, hn⟩ : ∃ n, n = l1.length := ⟨_, rfl⟩
  rw [← hn] at hn5
  obtain ⟨K, hr⟩ : ∃ r : Nat, (r : Int) = a.tmod ((n : Int) + 1) := ⟨(a.tmod ((n : Int) + 1)).toNat, by rw [Int.toNat_of_nonneg (Int.tmod_nonneg _ h0)]⟩
  have hK : K ≤ n := by have := Int.tmod_lt_of_pos a (b := (n : Int) + 1) (by omega); omega
  have e1 : IntKind.i64.wrap a = a := IntWalk.i64_in _ (by omega)
  have e2 : a.tmod ((n : Int) + 1) = (K : Int) := hr.symm
  have e3 : IntKind.i64.wrap ((n : Int) + 1) = (n : Int) + 1 := IntWalk.i64_in _ (by omega)
  have e4 : IntKind.i64.wrap (K : Int) = (K : Int) := IntWalk.i64_in _ (by omega)
  have e5 : ¬ ((n : Int) + 1 = 0) := by omega
  have HPA := Lib.hid (fun W => hP1 W)
  have HLA := Lib.hid hl1
  have HAL := Lib.hid (fun W => alive_c W)
  have HN := Lib.hid hn
  have HK := Lib.hid hK
  have hgp := st_guard
  have HAP := Lib.hid (show listI (s0 0) l1 = (listI (s0 0) (l1.take K)).next fun s1 e1 => (listI s1 (l1.drop K)).next fun s2 e2 => .ok s2 (e1 ++ e2) by rw [← listI_append, List.take_append_drop])
  clear hP1 hl1 hs ha hr h0 h1 hn
  cases hr1 : listI (s0 0) (l1.take K) with
  | no a' k' =>
    have hR : listI (s0 0) l1 = .no a' k' := by rw [HAP.out, hr1, IR.next_no]
    have he := listI_err hR
    have hk0 : (k' : Int) ≠ 0 := by omega
    have hk1 : ((k' : Int) != 0) = true := bne_iff_ne.2 hk0
    have HR := Lib.hid hR
    have HR1 := Lib.hid hr1
    clear hR hr1 he
    go_enter Try.func5, Try.ntmps5
    go_wp2_with (first
      | (go_at_call 7; ((with_reducible refine (HPA.out _).mono ?_); rintro e w1 hp; obtain ⟨hb, A1, c1, m1, rfl, hrow, he⟩ := hp.row; have hml : m1.length = n := (by rw [HN.out, ← he, ers_len]); have HB1 := Lib.hid hb; have HT1 := Lib.hid (tots_of he HLA.out); have HX1 := Lib.hid hrow; have haf1 := after_c (s0 0) Inv.init (NT.Row.first hrow K) (Nat.le_trans (tots_take16 m1 K) HT1.out); rw [← listI_ers, ers_take, he, HR1.out, show (m1.take K).length = K from (by rw [List.length_take, hml]; have := HK.out; omega)] at haf1; have HAF1 := Lib.hid (show Calls Try.prog 12 #[.agg #[.int .i64 0, .string ⟨#[]⟩, .string ⟨#[]⟩, .string ⟨#[]⟩], .slice A1 K c1] w1 (AfP (.no a' k') w1) from haf1); have HAF2 := Lib.hid (fun W (hb : Bel w1 W) => show Calls Try.prog 12 #[.agg #[.int .i64 0, .string ⟨#[]⟩, .string ⟨#[]⟩, .string ⟨#[]⟩], .slice A1 n c1] W (AfP (.no a' k') W) from (by have h := after_c (s0 0) Inv.init (hrow.bel hb) HT1.out; rw [← listI_ers, he, HR.out, hml] at h; exact h)); rw [hml]; have hnc : n ≤ c1 := (by have := hrow.1.1.1; omega); have hKc : K ≤ c1 := (by omega); clear hp he hrow hb haf1 hml))
      | (go_at_call 12; ((with_reducible refine (HAF1.out).mono ?_); rintro e w2 ⟨hb, t2, a2, k2, rfl, hq⟩; obtain ⟨ht, rfl, rfl, hne⟩ := hq.out; have HB2 := Lib.hid (hb.trans (Bel.alloc w2 (.cells #[.int .i64 (t2.c : Nat), .string (ofL t2.n), .string (ofL t2.a), .string (ofL t2.p)] 34))); clear hb hq ht hne))
      | (go_at_call 12; ((with_reducible refine (HAF2.out _ HB2.out).mono ?_); rintro e w3 ⟨hb, t3, a3, k3, rfl, hq⟩; obtain ⟨ht, rfl, rfl, hne⟩ := hq.out; have HB3 := Lib.hid ((HB1.out.trans (HB2.out.trans hb)).trans (Bel.alloc w3 (.cells #[.int .i64 (t3.c : Nat), .string (ofL t3.n), .string (ofL t3.a), .string (ofL t3.p)] 34))); clear hb hq ht hne))
      | (go_at_call 10; ((with_reducible refine (HAL.out _).mono ?_); rintro e w4 ⟨rfl, hb⟩; have HB4 := Lib.hid (HB3.out.trans hb); clear hb)))
    go_ret
    exact ⟨rfl, HB4.out⟩
  | ok s1 es1 =>
    obtain ⟨r2, hr2⟩ : ∃ r2, r2 = listI s1 (l1.drop K) := ⟨_, rfl⟩
    have hI1 : Inv s1 := by have h := listI_good (l1.take K) (s0 0) Inv.init; rw [hr1] at h; exact h
    have hR : listI (s0 0) l1 = r2.next fun s2 e2 => .ok s2 (es1 ++ e2) := by rw [HAP.out, hr1, IR.next_ok, ← hr2]
    have HR := Lib.hid hR
    have HR1 := Lib.hid hr1
    have HR2 := Lib.hid hr2
    have HI1 := Lib.hid hI1
    clear hR hr1 hr2 hI1
    go_enter Try.func5, Try.ntmps5
    go_wp2_with (first
      | (go_at_call 7; ((with_reducible refine (HPA.out _).mono ?_); rintro e w1 hp; obtain ⟨hb, A1, c1, m1, rfl, hrow, he⟩ := hp.row; have hml : m1.length = n := (by rw [HN.out, ← he, ers_len]); have HB1 := Lib.hid hb; have HT1 := Lib.hid (tots_of he HLA.out); have HX1 := Lib.hid hrow; have haf1 := after_c (s0 0) Inv.init (NT.Row.first hrow K) (Nat.le_trans (tots_take16 m1 K) HT1.out); rw [← listI_ers, ers_take, he, HR1.out, show (m1.take K).length = K from (by rw [List.length_take, hml]; have := HK.out; omega)] at haf1; have HAF1 := Lib.hid (show Calls Try.prog 12 #[.agg #[.int .i64 0, .string ⟨#[]⟩, .string ⟨#[]⟩, .string ⟨#[]⟩], .slice A1 K c1] w1 (AfP (.ok s1 es1) w1) from haf1); have HAF2 := Lib.hid (fun W (hb : Bel w1 W) => show Calls Try.prog 12 #[.agg #[.int .i64 0, .string ⟨#[]⟩, .string ⟨#[]⟩, .string ⟨#[]⟩], .slice A1 n c1] W (AfP (r2.next fun s2 e2 => .ok s2 (es1 ++ e2)) W) from (by have h := after_c (s0 0) Inv.init (hrow.bel hb) HT1.out; rw [← listI_ers, he, HR.out, hml] at h; exact h)); have HAF3 := Lib.hid (fun W (hb : Bel w1 W) => show Calls Try.prog 12 #[.agg #[.int .i64 (s1.c : Nat), .string (ofL s1.n), .string (ofL s1.a), .string (ofL s1.p)], .slice (cutA c1 K 8 A1) (n - K) (c1 - K)] W (AfP r2 W) from (by have h := after_c s1 HI1.out (NT.Row.cut (hrow.bel hb) K (by rw [hml]; exact HK.out)) (Nat.le_trans (tots_drop16 m1 K) HT1.out); rw [← listI_ers, ers_drop, he, ← HR2.out, List.length_drop, hml] at h; exact h)); rw [hml]; have hnc : n ≤ c1 := (by have := hrow.1.1.1; omega); have hKc : K ≤ c1 := (by omega); clear hp he hrow hb haf1 hml))
      | (go_at_call 12; ((with_reducible refine (HAF1.out).mono ?_); rintro e w2 ⟨hb, t2, a2, k2, rfl, hq⟩; obtain ⟨rfl, rfl, rfl⟩ := hq.out; have HB2 := Lib.hid (hb.trans (Bel.alloc w2 (.cells #[.int .i64 (t2.c : Nat), .string (ofL t2.n), .string (ofL t2.a), .string (ofL t2.p)] 34))); have HS2 := Lib.hid (Blk.new w2 34 (sC t2)); clear hb hq))
      | (go_at_call 12; ((with_reducible refine (HAF2.out _ HB2.out).mono ?_); rintro e w3 ⟨hb, t3, a3, k3, rfl, hq⟩; have HQ3 := hq; have HB3 := Lib.hid (HB2.out.trans (hb.trans (Bel.alloc w3 (.cells #[.int .i64 (t3.c : Nat), .string (ofL t3.n), .string (ofL t3.a), .string (ofL t3.p)] 34)))); have HS3 := Lib.hid (HS2.out.belh (hb.trans (Bel.alloc w3 (.cells #[.int .i64 (t3.c : Nat), .string (ofL t3.n), .string (ofL t3.a), .string (ofL t3.p)] 34)))); have HT3 := Lib.hid (Blk.new w3 34 (sC t3)); clear hb hq)))
    refine region_begin (T := []) (by kernel_rfl) ?_
    have HBd := Lib.hid (HB3.out.trans (Bel.drew _))
    have HSd := Lib.hid HS3.out.drew
    have HTd := Lib.hid HT3.out.drew
    generalize (World.alloc w3 _).drew = W at HBd HSd HTd ⊢
    have q0 : ∀ X : Later [] W, X.w.cell? ⟨w2.heap.size, 0, none⟩ = some (.int .i64 (t2.c : Nat)) := fun X => (HSd.out.belh (bel_of_only X.h)).cell 0
    have q1 : ∀ X : Later [] W, X.w.cell? ⟨w2.heap.size, 1, none⟩ = some (.string (ofL t2.n)) := fun X => (HSd.out.belh (bel_of_only X.h)).cell 1
    have q2 : ∀ X : Later [] W, X.w.cell? ⟨w2.heap.size, 2, none⟩ = some (.string (ofL t2.a)) := fun X => (HSd.out.belh (bel_of_only X.h)).cell 2
    have q3 : ∀ X : Later [] W, X.w.cell? ⟨w2.heap.size, 3, none⟩ = some (.string (ofL t2.p)) := fun X => (HSd.out.belh (bel_of_only X.h)).cell 3
    refine reg_seg [true, true, true, true] 9 (Only.refl _ _) (by kernel_rfl) (by kernel_rfl) (by kernel_rfl) rfl (fun _ _ d _ _ h => by cases d <;> exact h) ?_
    repeat (first | with_reducible refine wpMask_pass ?_ | (refine wpMask_want (by rfl) (fun K hK => ?_); go_big_quiet_op; refine hK _ ?_; clear hK K))
    with_reducible refine wpMask_nil ?_
    clear q0 q1 q2 q3
    apply once16
    case main =>
      intro key
      refine wpAnyH_all (rs := [4, 9]) (by kernel_rfl) (by simp) (fun i hi => ?_)
      simp only [List.mem_cons, List.not_mem_nil, or_false] at hi
      rcases hi with rfl | rfl
      case' inl =>
        refine op_call0 rfl (by rfl) (by go_simp; exact ⟨rfl, rfl⟩) ?_
        (with_reducible refine (HAF3.out _ HBd.out).mono ?_)
        rintro e w4 ⟨hb, t5, a5, k5, rfl, hq⟩
        refine ⟨_, rfl, bel_only hb, ?_⟩
        simp only [List.getElem_toArray, List.getElem_cons_zero, List.getElem_cons_succ, Act.put, List.setIfInBounds_toArray, List.set_cons_zero, List.set_cons_succ]
        refine reg_seg [false, false, false, false, false, true, true, true, true] 4 (bel_only hb) (by kernel_rfl) (by kernel_rfl) (by kernel_rfl) rfl (fun _ _ d _ _ h => by cases d <;> exact h) ?_
        repeat (first | with_reducible refine wpMask_pass ?_ | (refine wpMask_want (by rfl) (fun K hK => ?_); go_big_quiet_op; refine hK _ ?_; clear hK K))
        with_reducible refine wpMask_nil ?_
        refine reg_make 9 (v := .pointer (some ⟨w4.heap.size, 0, none⟩)) (w1 := w4.alloc (.cells #[.int .i64 0, .string ⟨#[]⟩, .string ⟨#[]⟩, .string ⟨#[]⟩] 34)) (by kernel_rfl) rfl (by rfl) (by go_simp) ((bel_only hb).alloc _) ?_
        simp only [List.getElem_toArray, List.getElem_cons_zero, List.getElem_cons_succ, Act.put, List.setIfInBounds_toArray, List.set_cons_zero, List.set_cons_succ]
        have HF := Lib.hid (show Bel W (w4.alloc (.cells #[.int .i64 0, .string ⟨#[]⟩, .string ⟨#[]⟩, .string ⟨#[]⟩] 34)) ∧ W.heap.size ≤ w4.heap.size ∧ Blk (w4.alloc (.cells #[.int .i64 0, .string ⟨#[]⟩, .string ⟨#[]⟩, .string ⟨#[]⟩] 34)) w4.heap.size 34 [.int .i64 0, .string ⟨#[]⟩, .string ⟨#[]⟩, .string ⟨#[]⟩] ∧ AQ r2 t5 a5 k5 from ⟨hb.trans (Bel.alloc _ _), hb.size, Blk.new w4 34 _, hq.out⟩)
        generalize w4.alloc (.cells #[.int .i64 0, .string ⟨#[]⟩, .string ⟨#[]⟩, .string ⟨#[]⟩] 34) = w5 at HF ⊢
        generalize w4.heap.size = g at HF ⊢
        clear hb hq w4
      case' inr =>
        refine op_make0 (v := .pointer (some ⟨W.heap.size, 0, none⟩)) (w1 := W.alloc (.cells #[.int .i64 0, .string ⟨#[]⟩, .string ⟨#[]⟩, .string ⟨#[]⟩] 34)) rfl (by rfl) (by go_simp) ((Only.refl _ _).alloc _) ?_
        simp only [List.getElem_toArray, List.getElem_cons_zero, List.getElem_cons_succ, Act.put, List.setIfInBounds_toArray, List.set_cons_zero, List.set_cons_succ]
        refine reg_call 4 (by kernel_rfl) rfl (by rfl) (by go_simp; exact ⟨rfl, rfl⟩) ?_
        (with_reducible refine (HAF3.out _ (HBd.out.trans (Bel.alloc _ _))).mono ?_)
        rintro e w5 ⟨hb, t5, a5, k5, rfl, hq⟩
        have hbW := (Bel.alloc W (.cells #[.int .i64 0, .string ⟨#[]⟩, .string ⟨#[]⟩, .string ⟨#[]⟩] 34)).trans hb
        refine ⟨_, rfl, bel_only hbW, ?_⟩
        simp only [List.getElem_toArray, List.getElem_cons_zero, List.getElem_cons_succ, Act.put, List.setIfInBounds_toArray, List.set_cons_zero, List.set_cons_succ]
        refine reg_seg [false, false, false, false, false, true, true, true, true] 3 (bel_only hbW) (by kernel_rfl) (by kernel_rfl) (by kernel_rfl) rfl (fun _ _ d _ _ h => by cases d <;> exact h) ?_
        repeat (first | with_reducible refine wpMask_pass ?_ | (refine wpMask_want (by rfl) (fun K hK => ?_); go_big_quiet_op; refine hK _ ?_; clear hK K))
        with_reducible refine wpMask_nil ?_
        have HF := Lib.hid (show Bel W w5 ∧ W.heap.size ≤ W.heap.size ∧ Blk w5 W.heap.size 34 [.int .i64 0, .string ⟨#[]⟩, .string ⟨#[]⟩, .string ⟨#[]⟩] ∧ AQ r2 t5 a5 k5 from ⟨hbW, Nat.le_refl _, (Blk.new W 34 _).belh hb, hq.out⟩)
        obtain ⟨g, hg⟩ : ∃ g, g = W.heap.size := ⟨_, rfl⟩
        rw [← hg]
        replace HF : Hid (Bel W w5 ∧ W.heap.size ≤ g ∧ Blk w5 g 34 [.int .i64 0, .string ⟨#[]⟩, .string ⟨#[]⟩, .string ⟨#[]⟩] ∧ AQ r2 t5 a5 k5) := by rw [hg]; exact HF
        clear hb hq hbW hg
      all_goals
        revert HF
        revert g
        revert k5
        revert a5
        revert t5
        revert w5
        exact key
    case tail =>
      intro w5 t5 a5 k5 g HF
      obtain ⟨hb, hgW, hB, hq⟩ := HF.out
      obtain ⟨rfl, rfl, rfl⟩ := aq_same HQ3.out hq
      obtain ⟨y0, y1, y2, y3⟩ := frees4 hB
      obtain ⟨z0, z1, z2, z3⟩ := cells4 hB
      have hO4 := only4p w5 g (.int .i64 (t3.c : Nat)) (.string (ofL t3.n)) (.string (ofL t3.a)) (.string (ofL t3.p))
      have hK4 := (((hB.set_ 0 (.int .i64 (t3.c : Nat))).set_ 1 (.string (ofL t3.n))).set_ 2 (.string (ofL t3.a))).set_ 3 (.string (ofL t3.p))
      simp only [List.set_cons_succ, List.set_cons_zero] at hK4
      have hOW : Only [] W ((((w5.setCell ⟨g, 0, none⟩ (.int .i64 (t3.c : Nat))).setCell ⟨g, 1, none⟩ (.string (ofL t3.n))).setCell ⟨g, 2, none⟩ (.string (ofL t3.a))).setCell ⟨g, 3, none⟩ (.string (ofL t3.p))) := (bel_only hb).join hO4 (by simp; omega)
      refine reg_store 10 (w1 := ((((w5.setCell ⟨g, 0, none⟩ (.int .i64 (t3.c : Nat))).setCell ⟨g, 1, none⟩ (.string (ofL t3.n))).setCell ⟨g, 2, none⟩ (.string (ofL t3.a))).setCell ⟨g, 3, none⟩ (.string (ofL t3.p)))) (by kernel_rfl) rfl (by rfl) (by go_simp) hOW ?_
      simp only [List.getElem_toArray, List.getElem_cons_zero, List.getElem_cons_succ, Act.put, List.setIfInBounds_toArray, List.set_cons_zero, List.set_cons_succ]
      have HK4 := Lib.hid hK4
      have HT4 := Lib.hid (HTd.out.belh (bel_of_only hOW))
      have HB4 := Lib.hid (HBd.out.trans (bel_of_only hOW))
      have HOW := Lib.hid hOW
      clear y0 y1 y2 y3 z0 z1 z2 z3 hO4 hK4 hOW hB hq hgW hb HF
      generalize ((((w5.setCell ⟨g, 0, none⟩ (.int .i64 (t3.c : Nat))).setCell ⟨g, 1, none⟩ (.string (ofL t3.n))).setCell ⟨g, 2, none⟩ (.string (ofL t3.a))).setCell ⟨g, 3, none⟩ (.string (ofL t3.p))) = w6 at HK4 HT4 HB4 HOW ⊢
      refine reg_seg [false, false, false, false, false, false, false, false, false, false, false, true, true] 0 HOW.out (by kernel_rfl) (by kernel_rfl) (by kernel_rfl) rfl (fun _ _ d _ _ h => by cases d <;> exact h) ?_
      repeat (first | with_reducible refine wpMask_pass ?_ | (refine wpMask_want (by rfl) (fun K hK => ?_); go_big_quiet_op; refine hK _ ?_; clear hK K))
      with_reducible refine wpMask_nil ?_
      refine region_end (by kernel_rfl) ?_
      have hcmp : ∀ W, (binOp .eql 34 (.agg #[.int .i64 (t3.c : Nat), .string (ofL t3.n), .string (ofL t3.a), .string (ofL t3.p)]) (.agg #[.int .i64 (t3.c : Nat), .string (ofL t3.n), .string (ofL t3.a), .string (ofL t3.p)])).run Try.prog W = .ok (.bool true) W := fun W => by have h := pst_eql t3 t3 W; rw [eqH_self] at h; exact h
      go_wp2_with (go_at_call 10; ((with_reducible refine (HAL.out _).mono ?_); rintro e w7 ⟨rfl, hb⟩; have HB7 := Lib.hid ((HB1.out.trans HB4.out).trans hb); have HK7 := Lib.hid (HK4.out.belh hb); have HT7 := Lib.hid (HT4.out.belh hb); clear hb; obtain ⟨k0, k1, k2', k3'⟩ := cells4 HK7.out; obtain ⟨r0, r1, r2', r3'⟩ := cells4 HT7.out))
      go_ret
      exact ⟨rfl, HB7.out⟩
end Go.Proofs.Yteclclidibmajaa
