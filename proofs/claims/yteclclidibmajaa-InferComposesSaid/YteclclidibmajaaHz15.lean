/-
  Contracts: the reference of layer 15: tag.
  Contracts: the reference of layer 15: tag, the rest of it.
  Contracts: the reference of layer 15: raw, where no end string goes on.
  Contracts: the reference of layer 15: raw, where an end string goes on; raw.
  Contracts: the reference of layer 15: Step; the law's Of.
-/
import Derived.Test.YteclclidibmajaaHr15
namespace Go.Proofs.Yteclclidibmajaa
open Go.RowKit Go.BigFrame
set_option linter.unusedVariables false
set_option linter.unusedSimpArgs false
set_option maxRecDepth 100000

/-- 'tagS' in the words of a walk, for a byte that is not '>' or a context past the tags. -/
def tagV (k : Int) (n a p : List UInt8) (c : UInt8) : Value :=
  if (k == 2) = true then
    if spcB c = true ∨ ((c.toNat : Int) == 47) = true then stV 1 (ofL n) ⟨#[]⟩ ⟨#[]⟩ else stV k (ofL (addL n c)) (ofL a) (ofL p)
  else if (k == 1) = true then
    if ¬ spcB c = true ∧ ((c.toNat : Int) != 47) = true then stV 3 (ofL n) (ofL (addL [] c)) ⟨#[]⟩ else stV k (ofL n) (ofL a) (ofL p)
  else if (k == 3) = true ∨ (k == 4) = true then
    if spcB c = true then stV 4 (ofL n) (ofL a) (ofL p)
    else if ((c.toNat : Int) == 47) = true then stV 1 (ofL n) ⟨#[]⟩ ⟨#[]⟩
    else if ((c.toNat : Int) == 61) = true then stV 5 (ofL n) (ofL a) (ofL p)
    else if (k == 4) = true then stV 3 (ofL n) (ofL (addL [] c)) ⟨#[]⟩ else stV k (ofL n) (ofL (addL a c)) (ofL p)
  else if (k == 5) = true then
    if ((c.toNat : Int) == 34) = true ∨ ((c.toNat : Int) == 39) = true then stV (quotedC a c : Nat) (ofL n) ⟨#[]⟩ ⟨#[]⟩
    else if (!spcB c) = true then stV 6 (ofL n) ⟨#[]⟩ ⟨#[]⟩ else stV k (ofL n) (ofL a) (ofL p)
  else if (k == 6) = true then
    if spcB c = true then stV 1 (ofL n) ⟨#[]⟩ ⟨#[]⟩ else stV k (ofL n) (ofL a) (ofL p)
  else if (k == 7) = true ∨ (k == 9) = true ∨ (k == 11) = true then
    if ((c.toNat : Int) == 34) = true then stV 1 (ofL n) ⟨#[]⟩ ⟨#[]⟩ else stV k (ofL n) (ofL a) (ofL p)
  else if (k == 8) = true ∨ (k == 10) = true ∨ (k == 12) = true then
    if ((c.toNat : Int) == 39) = true then stV 1 (ofL n) ⟨#[]⟩ ⟨#[]⟩ else stV k (ofL n) (ofL a) (ofL p)
  else stV k (ofL n) (ofL a) (ofL p)
theorem bel_set {w w1 : World} {b : Nat} (h : Bel w w1) (hb : w.heap.size ≤ b) (i : Nat) (v : Value) : Bel w (w1.setCell ⟨b, i, none⟩ v) := bel_on1 h ((Only.refl [b] _).setCell (.inl (by simp)) _) hb
/-- Several ways lead to one. -/
theorem once {T G : Prop} (main : T → G) (tail : T) : G := main tail
set_option maxRecDepth 100000 in
set_option maxHeartbeats 12800000 in
theorem rtag_rest (k : Int) (n a p : List UInt8) (c : UInt8) (w : World) (hn : n.length ≤ 100000) (ha : a.length ≤ 100000) (hc : ((c.toNat : Int) == 62) = false) :
    Calls Try.prog 35 #[stV k (ofL n) (ofL a) (ofL p), .int .u8 c.toNat] w (SvV (tagV k n a p c) w) := by
  unfold stV
  have HAD := Lib.hid (fun W => radd_c [] c W (by simp))
  rw [ofL_nil] at HAD
  have HAN := Lib.hid (fun W => radd_c n c W hn)
  have HAA := Lib.hid (fun W => radd_c a c W ha)
  have HSP := Lib.hid (fun W => rspace_c c W)
  have HQU := Lib.hid (fun W => rquoted_c a c W ha)
  have HB3 := Lib.hid (((Bel.alloc w (.cells #[.int .i64 k, .string (ofL n), .string (ofL a), .string (ofL p)] 38)).trans (Bel.alloc (w.alloc (.cells #[.int .i64 k, .string (ofL n), .string (ofL a), .string (ofL p)] 38)) (.cells #[.int .i64 0, .string ⟨#[]⟩, .string ⟨#[]⟩, .string ⟨#[]⟩] 38))).trans (Bel.alloc ((w.alloc (.cells #[.int .i64 k, .string (ofL n), .string (ofL a), .string (ofL p)] 38)).alloc (.cells #[.int .i64 0, .string ⟨#[]⟩, .string ⟨#[]⟩, .string ⟨#[]⟩] 38)) (.cells #[.int .i64 1, .string (ofL n), .string ⟨#[]⟩, .string ⟨#[]⟩] 38)))
  have HX3 := Lib.hid (((Blk.new w 38 [.int .i64 k, .string (ofL n), .string (ofL a), .string (ofL p)]).alloc (.cells #[.int .i64 0, .string ⟨#[]⟩, .string ⟨#[]⟩, .string ⟨#[]⟩] 38)).alloc (.cells #[.int .i64 1, .string (ofL n), .string ⟨#[]⟩, .string ⟨#[]⟩] 38))
  have HR3 := Lib.hid ((blk_at1h w (.cells #[.int .i64 k, .string (ofL n), .string (ofL a), .string (ofL p)] 38) 38 [.int .i64 0, .string ⟨#[]⟩, .string ⟨#[]⟩, .string ⟨#[]⟩]).alloc (.cells #[.int .i64 1, .string (ofL n), .string ⟨#[]⟩, .string ⟨#[]⟩] 38))
  have HT3 := Lib.hid (blk_at1h (w.alloc (.cells #[.int .i64 k, .string (ofL n), .string (ofL a), .string (ofL p)] 38)) (.cells #[.int .i64 0, .string ⟨#[]⟩, .string ⟨#[]⟩, .string ⟨#[]⟩] 38) 38 [.int .i64 1, .string (ofL n), .string ⟨#[]⟩, .string ⟨#[]⟩])
  rw [show ((w.alloc (.cells #[.int .i64 k, .string (ofL n), .string (ofL a), .string (ofL p)] 38))).heap.size + 1 = w.heap.size + 1 + 1 by simp] at HT3
  have HZ3 := Lib.hid (show ((((w.alloc (.cells #[.int .i64 k, .string (ofL n), .string (ofL a), .string (ofL p)] 38)).alloc (.cells #[.int .i64 0, .string ⟨#[]⟩, .string ⟨#[]⟩, .string ⟨#[]⟩] 38)).alloc (.cells #[.int .i64 1, .string (ofL n), .string ⟨#[]⟩, .string ⟨#[]⟩] 38))).heap.size = w.heap.size + 1 + 1 + 1 by simp)
  go_enter Try.func35, Try.ntmps35
  go_wp2_with fail
  have HBd := Lib.hid (HB3.out.trans (Bel.drew _))
  have HXd := Lib.hid HX3.out.drew
  have HRd := Lib.hid HR3.out.drew
  have HTd := Lib.hid HT3.out.drew
  have HZd := Lib.hid (show ((((w.alloc (.cells #[.int .i64 k, .string (ofL n), .string (ofL a), .string (ofL p)] 38)).alloc (.cells #[.int .i64 0, .string ⟨#[]⟩, .string ⟨#[]⟩, .string ⟨#[]⟩] 38)).alloc (.cells #[.int .i64 1, .string (ofL n), .string ⟨#[]⟩, .string ⟨#[]⟩] 38)).drew).heap.size = w.heap.size + 1 + 1 + 1 from HZ3.out)
  clear HB3 HX3 HR3 HT3 HZ3
  refine region_begin (T := []) (by kernel_rfl) ?_
  generalize (((w.alloc (.cells #[.int .i64 k, .string (ofL n), .string (ofL a), .string (ofL p)] 38)).alloc (.cells #[.int .i64 0, .string ⟨#[]⟩, .string ⟨#[]⟩, .string ⟨#[]⟩] 38)).alloc (.cells #[.int .i64 1, .string (ofL n), .string ⟨#[]⟩, .string ⟨#[]⟩] 38)).drew = Wd at HBd HXd HRd HTd HZd ⊢
  have p1 : ∀ X : Later [] Wd, X.w.cell? ⟨w.heap.size, 1, none⟩ = some (.string (ofL n)) := fun X => (HXd.out.belh (Bel.of_later X)).cell 1
  refine reg_seg [true, true, true] 4 (Only.refl _ _) (by kernel_rfl) (by kernel_rfl) (by kernel_rfl) rfl (fun _ _ d _ _ h => by cases d <;> exact h) ?_
  repeat (first | with_reducible refine wpMask_pass ?_ | (refine wpMask_want (by rfl) (fun K hK => ?_); go_big_quiet_op; refine hK _ ?_; clear hK K))
  with_reducible refine wpMask_nil ?_
  clear p1
  apply once
  case main =>
    intro key
    refine wpAnyH_all (rs := [3, 5]) (by kernel_rfl) (by simp) (fun i hi => ?_)
    simp only [List.mem_cons, List.not_mem_nil, or_false] at hi
    rcases hi with rfl | rfl
    case' inl =>
      refine op_call0 rfl (by rfl) (by go_simp; exact ⟨rfl, rfl⟩) ?_
      refine (HAD.out Wd).mono ?_
      rintro e w2 ⟨rfl, hb⟩
      refine ⟨_, rfl, bel_only hb, ?_⟩
      simp only [List.getElem_toArray, List.getElem_cons_zero, List.getElem_cons_succ, Act.put, List.setIfInBounds_toArray, List.set_cons_zero, List.set_cons_succ]
      have hbx := hb.trans (Bel.alloc w2 (.cells #[.int .i64 0, .string ⟨#[]⟩, .string ⟨#[]⟩, .string ⟨#[]⟩] 38))
      have hz := Blk.new w2 38 [.int .i64 0, .string ⟨#[]⟩, .string ⟨#[]⟩, .string ⟨#[]⟩]
      have hg := hb.size
      refine wpAnyH_all (rs := [4, 5]) (by kernel_rfl) (by simp) (fun i hi => ?_)
      simp only [List.mem_cons, List.not_mem_nil, or_false] at hi
      rcases hi with rfl | rfl
      case' inl =>
        refine op_make0 (v := .agg #[.int .i64 3, .string (ofL n), .string (ofL (addL [] c)), .string ⟨#[]⟩]) (w1 := w2) rfl (by rfl) (by go_simp) (bel_only hb) ?_
        simp only [List.getElem_toArray, List.getElem_cons_zero, List.getElem_cons_succ, Act.put, List.setIfInBounds_toArray, List.set_cons_zero, List.set_cons_succ]
        refine reg_make 5 (v := .pointer (some ⟨w2.heap.size, 0, none⟩)) (w1 := w2.alloc (.cells #[.int .i64 0, .string ⟨#[]⟩, .string ⟨#[]⟩, .string ⟨#[]⟩] 38)) (by kernel_rfl) rfl (by rfl) (by go_simp) (bel_only hbx) ?_
        simp only [List.getElem_toArray, List.getElem_cons_zero, List.getElem_cons_succ, Act.put, List.setIfInBounds_toArray, List.set_cons_zero, List.set_cons_succ]
      case' inr =>
        refine op_make0 (v := .pointer (some ⟨w2.heap.size, 0, none⟩)) (w1 := w2.alloc (.cells #[.int .i64 0, .string ⟨#[]⟩, .string ⟨#[]⟩, .string ⟨#[]⟩] 38)) rfl (by rfl) (by go_simp) (bel_only hbx) ?_
        simp only [List.getElem_toArray, List.getElem_cons_zero, List.getElem_cons_succ, Act.put, List.setIfInBounds_toArray, List.set_cons_zero, List.set_cons_succ]
        refine reg_make 4 (v := .agg #[.int .i64 3, .string (ofL n), .string (ofL (addL [] c)), .string ⟨#[]⟩]) (w1 := w2.alloc (.cells #[.int .i64 0, .string ⟨#[]⟩, .string ⟨#[]⟩, .string ⟨#[]⟩] 38)) (by kernel_rfl) rfl (by rfl) (by go_simp) (bel_only hbx) ?_
        simp only [List.getElem_toArray, List.getElem_cons_zero, List.getElem_cons_succ, Act.put, List.setIfInBounds_toArray, List.set_cons_zero, List.set_cons_succ]
      all_goals
        generalize w2.alloc (.cells #[.int .i64 0, .string ⟨#[]⟩, .string ⟨#[]⟩, .string ⟨#[]⟩] 38) = Wp at hbx hz ⊢
        generalize w2.heap.size = b6 at hz hg ⊢
        clear hb
        revert hbx hz hg
        clear w2
        revert Wp b6
    case' inr =>
      refine op_make0 (v := .pointer (some ⟨Wd.heap.size, 0, none⟩)) (w1 := Wd.alloc (.cells #[.int .i64 0, .string ⟨#[]⟩, .string ⟨#[]⟩, .string ⟨#[]⟩] 38)) rfl (by rfl) (by go_simp) (bel_only (Bel.alloc _ _)) ?_
      simp only [List.getElem_toArray, List.getElem_cons_zero, List.getElem_cons_succ, Act.put, List.setIfInBounds_toArray, List.set_cons_zero, List.set_cons_succ]
      have hz0 := Blk.new Wd 38 [.int .i64 0, .string ⟨#[]⟩, .string ⟨#[]⟩, .string ⟨#[]⟩]
      refine reg_call 3 (by kernel_rfl) rfl (by rfl) (by go_simp; exact ⟨rfl, rfl⟩) ?_
      refine (HAD.out _).mono ?_
      rintro e Wp ⟨rfl, hb1⟩
      have hbx := (Bel.alloc Wd (.cells #[.int .i64 0, .string ⟨#[]⟩, .string ⟨#[]⟩, .string ⟨#[]⟩] 38)).trans hb1
      have hz := hz0.belh hb1
      refine ⟨_, rfl, bel_only hbx, ?_⟩
      simp only [List.getElem_toArray, List.getElem_cons_zero, List.getElem_cons_succ, Act.put, List.setIfInBounds_toArray, List.set_cons_zero, List.set_cons_succ]
      refine reg_make 4 (v := .agg #[.int .i64 3, .string (ofL n), .string (ofL (addL [] c)), .string ⟨#[]⟩]) (w1 := Wp) (by kernel_rfl) rfl (by rfl) (by go_simp) (bel_only hbx) ?_
      simp only [List.getElem_toArray, List.getElem_cons_zero, List.getElem_cons_succ, Act.put, List.setIfInBounds_toArray, List.set_cons_zero, List.set_cons_succ]
      clear hz0 hb1
      obtain ⟨b6, hb6⟩ : ∃ q, q = Wd.heap.size := ⟨_, rfl⟩
      have hg : Wd.heap.size ≤ b6 := by omega
      rw [← hb6] at hz ⊢
      clear hb6
      revert hbx hz hg
      revert Wp b6
    all_goals exact key
  case tail =>
    intro Wp b6 hbx hz hg
    obtain ⟨z0, z1, z2, z3⟩ := cells4 hz
    obtain ⟨f0, f1, f2, f3⟩ := frees4 hz
    have hOs : Only [b6] Wp ((((Wp.setCell ⟨b6, 0, none⟩ (.int .i64 3)).setCell ⟨b6, 1, none⟩ (.string (ofL n))).setCell ⟨b6, 2, none⟩ (.string (ofL (addL [] c)))).setCell ⟨b6, 3, none⟩ (.string ⟨#[]⟩)) :=
      ((((Only.refl [b6] Wp).setCell (.inl (by simp)) _).setCell (.inl (by simp)) _).setCell (.inl (by simp)) _).setCell (.inl (by simp)) _
    have hOd := (bel_only hbx).join hOs (fun i hi => .inr (by simp at hi; omega))
    have hA := (((hz.set_ 0 (.int .i64 3)).set_ 1 (.string (ofL n))).set_ 2 (.string (ofL (addL [] c)))).set_ 3 (.string ⟨#[]⟩)
    simp only [List.set_cons_succ, List.set_cons_zero] at hA
    refine reg_store 6 (w1 := ((((Wp.setCell ⟨b6, 0, none⟩ (.int .i64 3)).setCell ⟨b6, 1, none⟩ (.string (ofL n))).setCell ⟨b6, 2, none⟩ (.string (ofL (addL [] c)))).setCell ⟨b6, 3, none⟩ (.string ⟨#[]⟩))) (by kernel_rfl) rfl (by rfl) (by go_simp) hOd ?_
    simp only [List.getElem_toArray, List.getElem_cons_zero, List.getElem_cons_succ, Act.put, List.setIfInBounds_toArray, List.set_cons_zero, List.set_cons_succ]
    refine region_end (by kernel_rfl) ?_
    have HX := Lib.hid (HXd.out.only hOd (by simp))
    have HR := Lib.hid (HRd.out.only hOd (by simp))
    have HT := Lib.hid (HTd.out.only hOd (by simp))
    have HA := Lib.hid hA
    have HB := Lib.hid (HBd.out.trans (bel_of_only hOd))
    clear z0 z1 z2 z3 f0 f1 f2 f3 hOs hA hz hbx
    generalize ((((Wp.setCell ⟨b6, 0, none⟩ (.int .i64 3)).setCell ⟨b6, 1, none⟩ (.string (ofL n))).setCell ⟨b6, 2, none⟩ (.string (ofL (addL [] c)))).setCell ⟨b6, 3, none⟩ (.string ⟨#[]⟩)) = Wf at HX HR HT HA HB hOd ⊢
    obtain ⟨b5, h5⟩ : ∃ q, q = w.heap.size + 1 + 1 := ⟨_, rfl⟩
    obtain ⟨b4, h4⟩ : ∃ q, q = w.heap.size + 1 := ⟨_, rfl⟩
    obtain ⟨b2, h2⟩ : ∃ q, q = w.heap.size := ⟨_, rfl⟩
    have HNE := Lib.hid (show w.heap.size ≤ b2 ∧ w.heap.size ≤ b4 ∧ b2 ≠ b4 ∧ b2 ≠ b5 ∧ b2 ≠ b6 ∧ b4 ≠ b2 by have := HZd.out; omega)
    have hne1 : ¬ b2 = b4 := HNE.out.2.2.1
    have hne2 : ¬ b4 = b2 := HNE.out.2.2.2.2.2
    rw [← h5] at HT ⊢
    rw [← h4] at HR ⊢
    rw [← h2] at HX ⊢
    clear h5 h4 h2 hOd hg HBd HXd HRd HTd HZd HAD
    obtain ⟨x0, x1, x2, x3⟩ := cells4 HX.out
    obtain ⟨r0, r1, r2, r3⟩ := cells4 HR.out
    obtain ⟨t0, t1, t2, t3⟩ := cells4 HT.out
    obtain ⟨a0, a1, a2, a3⟩ := cells4 HA.out
    obtain ⟨u0, u1, u2, u3⟩ := frees4 HX.out
    obtain ⟨v0, v1, v2, v3⟩ := frees4 HR.out
    go_wp2_with (first
      | (go_at_call 64; ((with_reducible refine (HSP.out _).mono ?_); rintro e w1 ⟨rfl, rfl⟩))
      | (go_at_call 62; (first | (with_reducible refine (HAN.out _).mono ?_) | (with_reducible refine (HAA.out _).mono ?_)); rintro e w2 ⟨rfl, hb⟩; have HB2 := Lib.hid (HB.out.trans hb); have HX2 := Lib.hid (HX.out.belh hb); have HR2 := Lib.hid (HR.out.belh hb); clear hb; obtain ⟨x0, x1, x2, x3⟩ := cells4 HX2.out; obtain ⟨r0, r1, r2, r3⟩ := cells4 HR2.out; obtain ⟨u0, u1, u2, u3⟩ := frees4 HX2.out; obtain ⟨v0, v1, v2, v3⟩ := frees4 HR2.out))
    all_goals first
      | ((with_reducible apply st_set (k := 4) (g := b4)); (case hf => rfl); (case hp => rfl); (case hB => first | with_reducible exact HR.out | with_reducible exact HR.out.far hne2 _ | with_reducible exact HR2.out.far hne2 _); (case hb => first | with_reducible exact HB.out | with_reducible exact bel_set HB.out HNE.out.1 _ _ | with_reducible exact bel_set HB2.out HNE.out.1 _ _); (case hg => exact HNE.out.2.1); clear x0 x1 x2 x3 r0 r1 r2 r3 t0 t1 t2 t3 a0 a1 a2 a3 u0 u1 u2 u3 v0 v1 v2 v3 HX HR HT HA HB HNE HAN HAA HSP HQU; unfold tagV; simp only [*, if_true, if_false, Bool.false_eq_true, or_true, true_or, or_self, beq_self_eq_true, not_false_eq_true, not_true_eq_false, and_self, and_true, true_and, and_false, false_and]; first | done | rfl)
      | skip
    ·
      have e34 := (u8_iff c 34).2 ‹_›
      subst e34
      refine region_begin (T := [b4]) (by kernel_rfl) ?_
      have HX4 := Lib.hid HX.out.drew
      have HR4 := Lib.hid HR.out.drew
      have HB4 := Lib.hid (HB.out.trans (Bel.drew _))
      clear x0 x1 x2 x3 r0 r1 r2 r3 t0 t1 t2 t3 a0 a1 a2 a3 u0 u1 u2 u3 v0 v1 v2 v3
      generalize Wf.drew = We at HX4 HR4 HB4 ⊢
      have p1 : ∀ X : Later [b4] We, X.w.cell? ⟨b2, 1, none⟩ = some (.string (ofL n)) := fun X => (HX4.out.only X.h (by simpa using hne1)).cell 1
      have p2 : ∀ X : Later [b4] We, X.w.cell? ⟨b2, 2, none⟩ = some (.string (ofL a)) := fun X => (HX4.out.only X.h (by simpa using hne1)).cell 2
      refine region_seg [true, true, true, false, true, true] 3 (by kernel_rfl) (by kernel_rfl) (by kernel_rfl) rfl (fun _ _ d _ _ h => by cases d <;> exact h) ?_
      repeat (first | with_reducible refine wpMask_pass ?_ | (refine wpMask_want (by rfl) (fun K hK => ?_); go_big_quiet_op; refine hK _ ?_; clear hK K))
      with_reducible refine wpMask_nil ?_
      clear p1 p2
      refine region_call 3 (by kernel_rfl) rfl (by rfl) (by go_simp; exact ⟨rfl, rfl⟩) ?_
      refine (HQU.out _).mono ?_
      rintro e w9 ⟨rfl, rfl⟩
      refine ⟨_, rfl, Only.refl _ _, ?_⟩
      simp only [List.getElem_toArray, List.getElem_cons_zero, List.getElem_cons_succ, Act.put, List.setIfInBounds_toArray, List.set_cons_zero, List.set_cons_succ]
      refine region_make 6 (v := .agg #[.int .i64 (quotedC a 34 : Nat), .string (ofL n), .string ⟨#[]⟩, .string ⟨#[]⟩]) (w1 := w9) (by kernel_rfl) rfl (by rfl) (by go_simp) (Only.refl _ _) ?_
      simp only [List.getElem_toArray, List.getElem_cons_zero, List.getElem_cons_succ, Act.put, List.setIfInBounds_toArray, List.set_cons_zero, List.set_cons_succ]
      obtain ⟨r0, r1, r2, r3⟩ := cells4 HR4.out
      obtain ⟨v0, v1, v2, v3⟩ := frees4 HR4.out
      refine region_store 7 (w1 := ((((w9.setCell ⟨b4, 0, none⟩ (.int .i64 (quotedC a 34 : Nat))).setCell ⟨b4, 1, none⟩ (.string (ofL n))).setCell ⟨b4, 2, none⟩ (.string ⟨#[]⟩)).setCell ⟨b4, 3, none⟩ (.string ⟨#[]⟩))) (by kernel_rfl) rfl (by rfl) (by go_simp) (((((Only.refl [b4] _).setCell (.inl (by simp)) _).setCell (.inl (by simp)) _).setCell (.inl (by simp)) _).setCell (.inl (by simp)) _) ?_
      simp only [List.getElem_toArray, List.getElem_cons_zero, List.getElem_cons_succ, Act.put, List.setIfInBounds_toArray, List.set_cons_zero, List.set_cons_succ]
      refine region_end (by kernel_rfl) ?_
      go_wp2_with fail
      (with_reducible apply st_set (k := 4) (g := b4))
      case hf => rfl
      case hp => rfl
      case hB => exact HR4.out
      case hb => exact HB4.out
      case hg => exact HNE.out.2.1
      unfold tagV
      simp only [*, if_true, if_false, Bool.false_eq_true, or_true, true_or, or_self, beq_self_eq_true]
    ·
      refine region_begin (T := [b4]) (by kernel_rfl) ?_
      have HX4 := Lib.hid HX.out.drew
      have HR4 := Lib.hid HR.out.drew
      have HB4 := Lib.hid (HB.out.trans (Bel.drew _))
      clear x0 x1 x2 x3 r0 r1 r2 r3 t0 t1 t2 t3 a0 a1 a2 a3 u0 u1 u2 u3 v0 v1 v2 v3
      generalize Wf.drew = We at HX4 HR4 HB4 ⊢
      have p1 : ∀ X : Later [b4] We, X.w.cell? ⟨b2, 1, none⟩ = some (.string (ofL n)) := fun X => (HX4.out.only X.h (by simpa using hne1)).cell 1
      have p2 : ∀ X : Later [b4] We, X.w.cell? ⟨b2, 2, none⟩ = some (.string (ofL a)) := fun X => (HX4.out.only X.h (by simpa using hne1)).cell 2
      refine region_seg [true, true, true, false, true, true] 3 (by kernel_rfl) (by kernel_rfl) (by kernel_rfl) rfl (fun _ _ d _ _ h => by cases d <;> exact h) ?_
      repeat (first | with_reducible refine wpMask_pass ?_ | (refine wpMask_want (by rfl) (fun K hK => ?_); go_big_quiet_op; refine hK _ ?_; clear hK K))
      with_reducible refine wpMask_nil ?_
      clear p1 p2
      refine region_call 3 (by kernel_rfl) rfl (by rfl) (by go_simp; exact ⟨rfl, rfl⟩) ?_
      refine (HQU.out _).mono ?_
      rintro e w9 ⟨rfl, rfl⟩
      refine ⟨_, rfl, Only.refl _ _, ?_⟩
      simp only [List.getElem_toArray, List.getElem_cons_zero, List.getElem_cons_succ, Act.put, List.setIfInBounds_toArray, List.set_cons_zero, List.set_cons_succ]
      refine region_make 6 (v := .agg #[.int .i64 (quotedC a c : Nat), .string (ofL n), .string ⟨#[]⟩, .string ⟨#[]⟩]) (w1 := w9) (by kernel_rfl) rfl (by rfl) (by go_simp) (Only.refl _ _) ?_
      simp only [List.getElem_toArray, List.getElem_cons_zero, List.getElem_cons_succ, Act.put, List.setIfInBounds_toArray, List.set_cons_zero, List.set_cons_succ]
      obtain ⟨r0, r1, r2, r3⟩ := cells4 HR4.out
      obtain ⟨v0, v1, v2, v3⟩ := frees4 HR4.out
      refine region_store 7 (w1 := ((((w9.setCell ⟨b4, 0, none⟩ (.int .i64 (quotedC a c : Nat))).setCell ⟨b4, 1, none⟩ (.string (ofL n))).setCell ⟨b4, 2, none⟩ (.string ⟨#[]⟩)).setCell ⟨b4, 3, none⟩ (.string ⟨#[]⟩))) (by kernel_rfl) rfl (by rfl) (by go_simp) (((((Only.refl [b4] _).setCell (.inl (by simp)) _).setCell (.inl (by simp)) _).setCell (.inl (by simp)) _).setCell (.inl (by simp)) _) ?_
      simp only [List.getElem_toArray, List.getElem_cons_zero, List.getElem_cons_succ, Act.put, List.setIfInBounds_toArray, List.set_cons_zero, List.set_cons_succ]
      refine region_end (by kernel_rfl) ?_
      go_wp2_with fail
      (with_reducible apply st_set (k := 4) (g := b4))
      case hf => rfl
      case hp => rfl
      case hB => exact HR4.out
      case hb => exact HB4.out
      case hg => exact HNE.out.2.1
      unfold tagV
      simp only [*, if_true, if_false, Bool.false_eq_true, or_true, true_or, or_self, beq_self_eq_true]
end Go.Proofs.Yteclclidibmajaa

namespace Go.Proofs.Yteclclidibmajaa
open Go.RowKit Go.BigFrame
set_option linter.unusedVariables false
set_option linter.unusedSimpArgs false
set_option maxRecDepth 100000

set_option maxRecDepth 100000 in
set_option maxHeartbeats 12800000 in
theorem rtag_far (k : Int) (n a p : List UInt8) (c : UInt8) (w : World) (hn : n.length ≤ 100000) (ha : a.length ≤ 100000) (hc : ((c.toNat : Int) == 62) = true) (hk6 : ¬ k ≤ 6) :
    Calls Try.prog 35 #[stV k (ofL n) (ofL a) (ofL p), .int .u8 c.toNat] w (SvV (tagV k n a p c) w) := by
  unfold stV
  have HAD := Lib.hid (fun W => radd_c [] c W (by simp))
  rw [ofL_nil] at HAD
  have HAN := Lib.hid (fun W => radd_c n c W hn)
  have HAA := Lib.hid (fun W => radd_c a c W ha)
  have HSP := Lib.hid (fun W => rspace_c c W)
  have HQU := Lib.hid (fun W => rquoted_c a c W ha)
  have HB3 := Lib.hid (((Bel.alloc w (.cells #[.int .i64 k, .string (ofL n), .string (ofL a), .string (ofL p)] 38)).trans (Bel.alloc (w.alloc (.cells #[.int .i64 k, .string (ofL n), .string (ofL a), .string (ofL p)] 38)) (.cells #[.int .i64 0, .string ⟨#[]⟩, .string ⟨#[]⟩, .string ⟨#[]⟩] 38))).trans (Bel.alloc ((w.alloc (.cells #[.int .i64 k, .string (ofL n), .string (ofL a), .string (ofL p)] 38)).alloc (.cells #[.int .i64 0, .string ⟨#[]⟩, .string ⟨#[]⟩, .string ⟨#[]⟩] 38)) (.cells #[.int .i64 1, .string (ofL n), .string ⟨#[]⟩, .string ⟨#[]⟩] 38)))
  have HX3 := Lib.hid (((Blk.new w 38 [.int .i64 k, .string (ofL n), .string (ofL a), .string (ofL p)]).alloc (.cells #[.int .i64 0, .string ⟨#[]⟩, .string ⟨#[]⟩, .string ⟨#[]⟩] 38)).alloc (.cells #[.int .i64 1, .string (ofL n), .string ⟨#[]⟩, .string ⟨#[]⟩] 38))
  have HR3 := Lib.hid ((blk_at1h w (.cells #[.int .i64 k, .string (ofL n), .string (ofL a), .string (ofL p)] 38) 38 [.int .i64 0, .string ⟨#[]⟩, .string ⟨#[]⟩, .string ⟨#[]⟩]).alloc (.cells #[.int .i64 1, .string (ofL n), .string ⟨#[]⟩, .string ⟨#[]⟩] 38))
  have HT3 := Lib.hid (blk_at1h (w.alloc (.cells #[.int .i64 k, .string (ofL n), .string (ofL a), .string (ofL p)] 38)) (.cells #[.int .i64 0, .string ⟨#[]⟩, .string ⟨#[]⟩, .string ⟨#[]⟩] 38) 38 [.int .i64 1, .string (ofL n), .string ⟨#[]⟩, .string ⟨#[]⟩])
  rw [show ((w.alloc (.cells #[.int .i64 k, .string (ofL n), .string (ofL a), .string (ofL p)] 38))).heap.size + 1 = w.heap.size + 1 + 1 by simp] at HT3
  have HZ3 := Lib.hid (show ((((w.alloc (.cells #[.int .i64 k, .string (ofL n), .string (ofL a), .string (ofL p)] 38)).alloc (.cells #[.int .i64 0, .string ⟨#[]⟩, .string ⟨#[]⟩, .string ⟨#[]⟩] 38)).alloc (.cells #[.int .i64 1, .string (ofL n), .string ⟨#[]⟩, .string ⟨#[]⟩] 38))).heap.size = w.heap.size + 1 + 1 + 1 by simp)
  go_enter Try.func35, Try.ntmps35
  go_wp2_with fail
  have HBd := Lib.hid (HB3.out.trans (Bel.drew _))
  have HXd := Lib.hid HX3.out.drew
  have HRd := Lib.hid HR3.out.drew
  have HTd := Lib.hid HT3.out.drew
  have HZd := Lib.hid (show ((((w.alloc (.cells #[.int .i64 k, .string (ofL n), .string (ofL a), .string (ofL p)] 38)).alloc (.cells #[.int .i64 0, .string ⟨#[]⟩, .string ⟨#[]⟩, .string ⟨#[]⟩] 38)).alloc (.cells #[.int .i64 1, .string (ofL n), .string ⟨#[]⟩, .string ⟨#[]⟩] 38)).drew).heap.size = w.heap.size + 1 + 1 + 1 from HZ3.out)
  clear HB3 HX3 HR3 HT3 HZ3
  refine region_begin (T := []) (by kernel_rfl) ?_
  generalize (((w.alloc (.cells #[.int .i64 k, .string (ofL n), .string (ofL a), .string (ofL p)] 38)).alloc (.cells #[.int .i64 0, .string ⟨#[]⟩, .string ⟨#[]⟩, .string ⟨#[]⟩] 38)).alloc (.cells #[.int .i64 1, .string (ofL n), .string ⟨#[]⟩, .string ⟨#[]⟩] 38)).drew = Wd at HBd HXd HRd HTd HZd ⊢
  have p1 : ∀ X : Later [] Wd, X.w.cell? ⟨w.heap.size, 1, none⟩ = some (.string (ofL n)) := fun X => (HXd.out.belh (Bel.of_later X)).cell 1
  refine reg_seg [true, true, true] 4 (Only.refl _ _) (by kernel_rfl) (by kernel_rfl) (by kernel_rfl) rfl (fun _ _ d _ _ h => by cases d <;> exact h) ?_
  repeat (first | with_reducible refine wpMask_pass ?_ | (refine wpMask_want (by rfl) (fun K hK => ?_); go_big_quiet_op; refine hK _ ?_; clear hK K))
  with_reducible refine wpMask_nil ?_
  clear p1
  apply once
  case main =>
    intro key
    refine wpAnyH_all (rs := [3, 5]) (by kernel_rfl) (by simp) (fun i hi => ?_)
    simp only [List.mem_cons, List.not_mem_nil, or_false] at hi
    rcases hi with rfl | rfl
    case' inl =>
      refine op_call0 rfl (by rfl) (by go_simp; exact ⟨rfl, rfl⟩) ?_
      refine (HAD.out Wd).mono ?_
      rintro e w2 ⟨rfl, hb⟩
      refine ⟨_, rfl, bel_only hb, ?_⟩
      simp only [List.getElem_toArray, List.getElem_cons_zero, List.getElem_cons_succ, Act.put, List.setIfInBounds_toArray, List.set_cons_zero, List.set_cons_succ]
      have hbx := hb.trans (Bel.alloc w2 (.cells #[.int .i64 0, .string ⟨#[]⟩, .string ⟨#[]⟩, .string ⟨#[]⟩] 38))
      have hz := Blk.new w2 38 [.int .i64 0, .string ⟨#[]⟩, .string ⟨#[]⟩, .string ⟨#[]⟩]
      have hg := hb.size
      refine wpAnyH_all (rs := [4, 5]) (by kernel_rfl) (by simp) (fun i hi => ?_)
      simp only [List.mem_cons, List.not_mem_nil, or_false] at hi
      rcases hi with rfl | rfl
      case' inl =>
        refine op_make0 (v := .agg #[.int .i64 3, .string (ofL n), .string (ofL (addL [] c)), .string ⟨#[]⟩]) (w1 := w2) rfl (by rfl) (by go_simp) (bel_only hb) ?_
        simp only [List.getElem_toArray, List.getElem_cons_zero, List.getElem_cons_succ, Act.put, List.setIfInBounds_toArray, List.set_cons_zero, List.set_cons_succ]
        refine reg_make 5 (v := .pointer (some ⟨w2.heap.size, 0, none⟩)) (w1 := w2.alloc (.cells #[.int .i64 0, .string ⟨#[]⟩, .string ⟨#[]⟩, .string ⟨#[]⟩] 38)) (by kernel_rfl) rfl (by rfl) (by go_simp) (bel_only hbx) ?_
        simp only [List.getElem_toArray, List.getElem_cons_zero, List.getElem_cons_succ, Act.put, List.setIfInBounds_toArray, List.set_cons_zero, List.set_cons_succ]
      case' inr =>
        refine op_make0 (v := .pointer (some ⟨w2.heap.size, 0, none⟩)) (w1 := w2.alloc (.cells #[.int .i64 0, .string ⟨#[]⟩, .string ⟨#[]⟩, .string ⟨#[]⟩] 38)) rfl (by rfl) (by go_simp) (bel_only hbx) ?_
        simp only [List.getElem_toArray, List.getElem_cons_zero, List.getElem_cons_succ, Act.put, List.setIfInBounds_toArray, List.set_cons_zero, List.set_cons_succ]
        refine reg_make 4 (v := .agg #[.int .i64 3, .string (ofL n), .string (ofL (addL [] c)), .string ⟨#[]⟩]) (w1 := w2.alloc (.cells #[.int .i64 0, .string ⟨#[]⟩, .string ⟨#[]⟩, .string ⟨#[]⟩] 38)) (by kernel_rfl) rfl (by rfl) (by go_simp) (bel_only hbx) ?_
        simp only [List.getElem_toArray, List.getElem_cons_zero, List.getElem_cons_succ, Act.put, List.setIfInBounds_toArray, List.set_cons_zero, List.set_cons_succ]
      all_goals
        generalize w2.alloc (.cells #[.int .i64 0, .string ⟨#[]⟩, .string ⟨#[]⟩, .string ⟨#[]⟩] 38) = Wp at hbx hz ⊢
        generalize w2.heap.size = b6 at hz hg ⊢
        clear hb
        revert hbx hz hg
        clear w2
        revert Wp b6
    case' inr =>
      refine op_make0 (v := .pointer (some ⟨Wd.heap.size, 0, none⟩)) (w1 := Wd.alloc (.cells #[.int .i64 0, .string ⟨#[]⟩, .string ⟨#[]⟩, .string ⟨#[]⟩] 38)) rfl (by rfl) (by go_simp) (bel_only (Bel.alloc _ _)) ?_
      simp only [List.getElem_toArray, List.getElem_cons_zero, List.getElem_cons_succ, Act.put, List.setIfInBounds_toArray, List.set_cons_zero, List.set_cons_succ]
      have hz0 := Blk.new Wd 38 [.int .i64 0, .string ⟨#[]⟩, .string ⟨#[]⟩, .string ⟨#[]⟩]
      refine reg_call 3 (by kernel_rfl) rfl (by rfl) (by go_simp; exact ⟨rfl, rfl⟩) ?_
      refine (HAD.out _).mono ?_
      rintro e Wp ⟨rfl, hb1⟩
      have hbx := (Bel.alloc Wd (.cells #[.int .i64 0, .string ⟨#[]⟩, .string ⟨#[]⟩, .string ⟨#[]⟩] 38)).trans hb1
      have hz := hz0.belh hb1
      refine ⟨_, rfl, bel_only hbx, ?_⟩
      simp only [List.getElem_toArray, List.getElem_cons_zero, List.getElem_cons_succ, Act.put, List.setIfInBounds_toArray, List.set_cons_zero, List.set_cons_succ]
      refine reg_make 4 (v := .agg #[.int .i64 3, .string (ofL n), .string (ofL (addL [] c)), .string ⟨#[]⟩]) (w1 := Wp) (by kernel_rfl) rfl (by rfl) (by go_simp) (bel_only hbx) ?_
      simp only [List.getElem_toArray, List.getElem_cons_zero, List.getElem_cons_succ, Act.put, List.setIfInBounds_toArray, List.set_cons_zero, List.set_cons_succ]
      clear hz0 hb1
      obtain ⟨b6, hb6⟩ : ∃ q, q = Wd.heap.size := ⟨_, rfl⟩
      have hg : Wd.heap.size ≤ b6 := by omega
      rw [← hb6] at hz ⊢
      clear hb6
      revert hbx hz hg
      revert Wp b6
    all_goals exact key
  case tail =>
    intro Wp b6 hbx hz hg
    obtain ⟨z0, z1, z2, z3⟩ := cells4 hz
    obtain ⟨f0, f1, f2, f3⟩ := frees4 hz
    have hOs : Only [b6] Wp ((((Wp.setCell ⟨b6, 0, none⟩ (.int .i64 3)).setCell ⟨b6, 1, none⟩ (.string (ofL n))).setCell ⟨b6, 2, none⟩ (.string (ofL (addL [] c)))).setCell ⟨b6, 3, none⟩ (.string ⟨#[]⟩)) :=
      ((((Only.refl [b6] Wp).setCell (.inl (by simp)) _).setCell (.inl (by simp)) _).setCell (.inl (by simp)) _).setCell (.inl (by simp)) _
    have hOd := (bel_only hbx).join hOs (fun i hi => .inr (by simp at hi; omega))
    have hA := (((hz.set_ 0 (.int .i64 3)).set_ 1 (.string (ofL n))).set_ 2 (.string (ofL (addL [] c)))).set_ 3 (.string ⟨#[]⟩)
    simp only [List.set_cons_succ, List.set_cons_zero] at hA
    refine reg_store 6 (w1 := ((((Wp.setCell ⟨b6, 0, none⟩ (.int .i64 3)).setCell ⟨b6, 1, none⟩ (.string (ofL n))).setCell ⟨b6, 2, none⟩ (.string (ofL (addL [] c)))).setCell ⟨b6, 3, none⟩ (.string ⟨#[]⟩))) (by kernel_rfl) rfl (by rfl) (by go_simp) hOd ?_
    simp only [List.getElem_toArray, List.getElem_cons_zero, List.getElem_cons_succ, Act.put, List.setIfInBounds_toArray, List.set_cons_zero, List.set_cons_succ]
    refine region_end (by kernel_rfl) ?_
    have HX := Lib.hid (HXd.out.only hOd (by simp))
    have HR := Lib.hid (HRd.out.only hOd (by simp))
    have HT := Lib.hid (HTd.out.only hOd (by simp))
    have HA := Lib.hid hA
    have HB := Lib.hid (HBd.out.trans (bel_of_only hOd))
    clear z0 z1 z2 z3 f0 f1 f2 f3 hOs hA hz hbx
    generalize ((((Wp.setCell ⟨b6, 0, none⟩ (.int .i64 3)).setCell ⟨b6, 1, none⟩ (.string (ofL n))).setCell ⟨b6, 2, none⟩ (.string (ofL (addL [] c)))).setCell ⟨b6, 3, none⟩ (.string ⟨#[]⟩)) = Wf at HX HR HT HA HB hOd ⊢
    obtain ⟨b5, h5⟩ : ∃ q, q = w.heap.size + 1 + 1 := ⟨_, rfl⟩
    obtain ⟨b4, h4⟩ : ∃ q, q = w.heap.size + 1 := ⟨_, rfl⟩
    obtain ⟨b2, h2⟩ : ∃ q, q = w.heap.size := ⟨_, rfl⟩
    have HNE := Lib.hid (show w.heap.size ≤ b2 ∧ w.heap.size ≤ b4 ∧ b2 ≠ b4 ∧ b2 ≠ b5 ∧ b2 ≠ b6 ∧ b4 ≠ b2 by have := HZd.out; omega)
    have hne1 : ¬ b2 = b4 := HNE.out.2.2.1
    have hne2 : ¬ b4 = b2 := HNE.out.2.2.2.2.2
    rw [← h5] at HT ⊢
    rw [← h4] at HR ⊢
    rw [← h2] at HX ⊢
    clear h5 h4 h2 hOd hg HBd HXd HRd HTd HZd HAD
    obtain ⟨x0, x1, x2, x3⟩ := cells4 HX.out
    obtain ⟨r0, r1, r2, r3⟩ := cells4 HR.out
    obtain ⟨t0, t1, t2, t3⟩ := cells4 HT.out
    obtain ⟨a0, a1, a2, a3⟩ := cells4 HA.out
    obtain ⟨u0, u1, u2, u3⟩ := frees4 HX.out
    obtain ⟨v0, v1, v2, v3⟩ := frees4 HR.out
    go_wp2_with (first
      | (go_at_call 64; ((with_reducible refine (HSP.out _).mono ?_); rintro e w1 ⟨rfl, rfl⟩))
      | (go_at_call 62; (first | (with_reducible refine (HAN.out _).mono ?_) | (with_reducible refine (HAA.out _).mono ?_)); rintro e w2 ⟨rfl, hb⟩; have HB2 := Lib.hid (HB.out.trans hb); have HX2 := Lib.hid (HX.out.belh hb); have HR2 := Lib.hid (HR.out.belh hb); clear hb; obtain ⟨x0, x1, x2, x3⟩ := cells4 HX2.out; obtain ⟨r0, r1, r2, r3⟩ := cells4 HR2.out; obtain ⟨u0, u1, u2, u3⟩ := frees4 HX2.out; obtain ⟨v0, v1, v2, v3⟩ := frees4 HR2.out))
    all_goals first
      | ((with_reducible apply st_set (k := 4) (g := b4)); (case hf => rfl); (case hp => rfl); (case hB => first | with_reducible exact HR.out | with_reducible exact HR.out.far hne2 _ | with_reducible exact HR2.out.far hne2 _); (case hb => first | with_reducible exact HB.out | with_reducible exact bel_set HB.out HNE.out.1 _ _ | with_reducible exact bel_set HB2.out HNE.out.1 _ _); (case hg => exact HNE.out.2.1); clear x0 x1 x2 x3 r0 r1 r2 r3 t0 t1 t2 t3 a0 a1 a2 a3 u0 u1 u2 u3 v0 v1 v2 v3 HX HR HT HA HB HNE HAN HAA HSP HQU; unfold tagV; simp only [*, if_true, if_false, Bool.false_eq_true, or_true, true_or, or_self, beq_self_eq_true, not_false_eq_true, not_true_eq_false, and_self, and_true, true_and, and_false, false_and]; first | done | rfl)
theorem tagS_w (s : HS) (c : UInt8) : (tagS s c).val = if ((c.toNat : Int) == 62) = true ∧ (s.c : Int) ≤ 6 then (openS s.n).val else tagV s.c s.n s.a s.p c := by
  have hc : ∀ k : UInt8, ((c.toNat : Int) == (k.toNat : Int)) = true ↔ c = k := fun k => by rw [u8_iff, beq_iff_eq]
  have h62 : ((c.toNat : Int) == 62) = true ↔ c = 62 := hc 62
  have h47 : ((c.toNat : Int) == 47) = true ↔ c = 47 := hc 47
  have h61 : ((c.toNat : Int) == 61) = true ↔ c = 61 := hc 61
  have h34 : ((c.toNat : Int) == 34) = true ↔ c = 34 := hc 34
  have h39 : ((c.toNat : Int) == 39) = true ↔ c = 39 := hc 39
  have n47 : ((c.toNat : Int) != 47) = true ↔ c ≠ 47 := by rw [bne_iff_ne]; exact not_congr (u8_iff c 47).symm
  have hk : ∀ j : Nat, ((s.c : Int) == (j : Int)) = true ↔ s.c = j := fun j => by rw [beq_iff_eq]; omega
  have k1 : ((s.c : Int) == 1) = true ↔ s.c = 1 := hk 1
  have k2 : ((s.c : Int) == 2) = true ↔ s.c = 2 := hk 2
  have k3 : ((s.c : Int) == 3) = true ↔ s.c = 3 := hk 3
  have k4 : ((s.c : Int) == 4) = true ↔ s.c = 4 := hk 4
  have k5 : ((s.c : Int) == 5) = true ↔ s.c = 5 := hk 5
  have k6 : ((s.c : Int) == 6) = true ↔ s.c = 6 := hk 6
  have k7 : ((s.c : Int) == 7) = true ↔ s.c = 7 := hk 7
  have k8 : ((s.c : Int) == 8) = true ↔ s.c = 8 := hk 8
  have k9 : ((s.c : Int) == 9) = true ↔ s.c = 9 := hk 9
  have k10 : ((s.c : Int) == 10) = true ↔ s.c = 10 := hk 10
  have k11 : ((s.c : Int) == 11) = true ↔ s.c = 11 := hk 11
  have k12 : ((s.c : Int) == 12) = true ↔ s.c = 12 := hk 12
  have le6 : (s.c : Int) ≤ 6 ↔ s.c ≤ 6 := by omega
  have sp : ¬ spcB c = true ↔ spcB c = false := by simp
  have sn : (!spcB c) = true ↔ spcB c = false := by simp
  unfold tagV tagS
  simp only [h62, h47, h61, h34, h39, n47, k1, k2, k3, k4, k5, k6, k7, k8, k9, k10, k11, k12, le6, sp, sn]
  by_cases c0 : c = 62 ∧ s.c ≤ 6
  · rw [if_pos c0, if_pos c0]
  rw [if_neg c0, if_neg c0]
  by_cases c2 : s.c = 2
  · rw [if_pos c2, if_pos c2]
    split
    · rfl
    · show HS.val ⟨2, _, _, _⟩ = _
      rw [c2]; rfl
  rw [if_neg c2, if_neg c2]
  by_cases c1 : s.c = 1
  · rw [if_pos c1, if_pos c1]
    split <;> rfl
  rw [if_neg c1, if_neg c1]
  by_cases c3 : s.c = 3 ∨ s.c = 4
  · rw [if_pos c3, if_pos c3]
    split
    · rfl
    split
    · rfl
    split
    · rfl
    split <;> rfl
  rw [if_neg c3, if_neg c3]
  by_cases c5 : s.c = 5
  · rw [if_pos c5, if_pos c5]
    split
    · rfl
    split <;> rfl
  rw [if_neg c5, if_neg c5]
  by_cases c6 : s.c = 6
  · rw [if_pos c6, if_pos c6]
    split <;> rfl
  rw [if_neg c6, if_neg c6]
  by_cases c7 : s.c = 7 ∨ s.c = 9 ∨ s.c = 11
  · rw [if_pos c7, if_pos c7]
    split <;> rfl
  rw [if_neg c7, if_neg c7]
  by_cases c8 : s.c = 8 ∨ s.c = 10 ∨ s.c = 12
  · rw [if_pos c8, if_pos c8]
    split <;> rfl
  rw [if_neg c8, if_neg c8]
  rfl
set_option maxRecDepth 100000 in
set_option maxHeartbeats 3200000 in
theorem rtag_open (k : Int) (n a p : List UInt8) (c : UInt8) (w : World) (hc : ((c.toNat : Int) == 62) = true) (hk6 : k ≤ 6) :
    Calls Try.prog 35 #[stV k (ofL n) (ofL a) (ofL p), .int .u8 c.toNat] w (SvV (openS n).val w) := by
  unfold stV
  have HB2 := Lib.hid ((Bel.alloc w (.cells #[.int .i64 k, .string (ofL n), .string (ofL a), .string (ofL p)] 38)).trans (Bel.alloc (w.alloc (.cells #[.int .i64 k, .string (ofL n), .string (ofL a), .string (ofL p)] 38)) (.cells #[.int .i64 0, .string ⟨#[]⟩, .string ⟨#[]⟩, .string ⟨#[]⟩] 38)))
  have HR2 := Lib.hid (blk_at1h w (.cells #[.int .i64 k, .string (ofL n), .string (ofL a), .string (ofL p)] 38) 38 [.int .i64 0, .string ⟨#[]⟩, .string ⟨#[]⟩, .string ⟨#[]⟩])
  obtain ⟨t, ht⟩ : ∃ t, t = openS n := ⟨_, rfl⟩
  have HOP := Lib.hid (fun W => show Calls Try.prog 63 #[.string (ofL n)] W (SvV (.agg #[.int .i64 (t.c : Nat), .string (ofL t.n), .string (ofL t.a), .string (ofL t.p)]) W) from by rw [ht]; exact ropen_c n W)
  rw [← ht]
  clear ht
  go_enter Try.func35, Try.ntmps35
  go_wp2_with (go_at_call 63; ((with_reducible refine (HOP.out _).mono ?_); rintro e w2 ⟨rfl, hb⟩; have HB := Lib.hid (HB2.out.trans hb); have HR := Lib.hid (HR2.out.belh hb); clear hb; obtain ⟨r0, r1, r2, r3⟩ := cells4 HR.out; obtain ⟨v0, v1, v2, v3⟩ := frees4 HR.out))
  all_goals (with_reducible apply st_set (k := 4) (g := w.heap.size + 1))
  case hf => rfl
  case hp => rfl
  case hB => exact HR.out
  case hb => exact HB.out
  case hg => omega
  case he => rfl
theorem rtag_c (s : HS) (c : UInt8) (w : World) (hn : s.n.length ≤ 100000) (ha : s.a.length ≤ 100000) :
    Calls Try.prog 35 #[s.val, .int .u8 c.toNat] w (SvP (tagS s c) w) := by
  show Calls _ _ _ _ (SvV (tagS s c).val w)
  rw [tagS_w]
  cases h62 : ((c.toNat : Int) == 62) with
  | false =>
    rw [if_neg (by simp)]
    exact rtag_rest _ _ _ _ c w hn ha h62
  | true =>
    by_cases h6 : (s.c : Int) ≤ 6
    · rw [if_pos ⟨rfl, h6⟩]
      exact rtag_open _ _ _ _ c w h62 h6
    · rw [if_neg (fun h => h6 h.2)]
      exact rtag_far _ _ _ _ c w hn ha h62 h6
end Go.Proofs.Yteclclidibmajaa

namespace Go.Proofs.Yteclclidibmajaa
open Go.RowKit Go.BigFrame
set_option linter.unusedVariables false
set_option linter.unusedSimpArgs false
set_option maxRecDepth 100000

theorem run_index_ofL (l : List UInt8) (i : Nat) (d : UInt8) (h : l[i]? = some d) (w : World) : (Instr.index 9 (.string (ofL l)) (.int .i64 (i : Int))).run Try.prog w = .ok (.int .u8 d.toNat) w := by
  have hi : i < (ofL l).size := (List.getElem?_eq_some_iff.1 h).1
  have hd : (ofL l)[i]'hi = d := by
    have := (List.getElem?_eq_some_iff.1 h).2
    exact this
  rw [← hd]
  simp [Instr.index, run_underlying Try.underlying9, asIntOf, hi, go_sem]
/-- What is left where no end string goes on, in the words of a walk. -/
def rawV (k C C1 C2 : Int) (n a p : List UInt8) (c : UInt8) : Value :=
  if ((c.toNat : Int) == 60) = true then stV k (ofL n) (ofL a) ⟨#[60]⟩
  else if ((ofL p).toList == [92]) = true then stV k (ofL n) (ofL a) ⟨#[]⟩
  else if (k == C) = true then
    if ((c.toNat : Int) == 34) = true then stV C1 (ofL n) (ofL a) ⟨#[]⟩ else if ((c.toNat : Int) == 39) = true then stV C2 (ofL n) (ofL a) ⟨#[]⟩ else stV k (ofL n) (ofL a) ⟨#[]⟩
  else if (k == C2) = true then
    if ((c.toNat : Int) == 39) = true ∨ ((c.toNat : Int) == 10) = true then stV C (ofL n) (ofL a) (if ((c.toNat : Int) == 92) = true then ⟨#[92]⟩ else ⟨#[]⟩)
    else stV k (ofL n) (ofL a) (if ((c.toNat : Int) == 92) = true then ⟨#[92]⟩ else ⟨#[]⟩)
  else if ((c.toNat : Int) == 34) = true ∨ ((c.toNat : Int) == 10) = true then stV C (ofL n) (ofL a) (if ((c.toNat : Int) == 92) = true then ⟨#[92]⟩ else ⟨#[]⟩)
  else stV k (ofL n) (ofL a) (if ((c.toNat : Int) == 92) = true then ⟨#[92]⟩ else ⟨#[]⟩)
set_option maxRecDepth 100000 in
set_option maxHeartbeats 12800000 in
theorem rraw_no16 (k : Int) (n a p : List UInt8) (c : UInt8) (w : World) (hk : k < 19) (hp : p.length ≤ 100000) (hno : ¬ (p.head? = some 60 ∧ ([60, 47, 115, 99, 114, 105, 112, 116] : List UInt8)[p.length]? = some (lowB c))) :
    Calls Try.prog 37 #[stV k (ofL n) (ofL a) (ofL p), .int .u8 c.toNat] w (SvV (rawV k 16 17 18 n a p c) w) := by
  unfold stV
  have HL := Lib.hid (fun W => rlower_c c W)
  have HB2 := Lib.hid ((Bel.alloc w (.cells #[.int .i64 k, .string (ofL n), .string (ofL a), .string (ofL p)] 38)).trans (Bel.alloc (w.alloc (.cells #[.int .i64 k, .string (ofL n), .string (ofL a), .string (ofL p)] 38)) (.cells #[.int .i64 0, .string ⟨#[]⟩, .string ⟨#[]⟩, .string ⟨#[]⟩] 38)))
  have HX2 := Lib.hid ((Blk.new w 38 [.int .i64 k, .string (ofL n), .string (ofL a), .string (ofL p)]).alloc (.cells #[.int .i64 0, .string ⟨#[]⟩, .string ⟨#[]⟩, .string ⟨#[]⟩] 38))
  have HR2 := Lib.hid (blk_at1h w (.cells #[.int .i64 k, .string (ofL n), .string (ofL a), .string (ofL p)] 38) 38 [.int .i64 0, .string ⟨#[]⟩, .string ⟨#[]⟩, .string ⟨#[]⟩])
  have HNO := Lib.hid hno
  clear hno
  have hz : (ofL p).size = p.length := rfl
  go_enter Try.func37, Try.ntmps37
  go_wp2_with fail
  obtain ⟨b4, h4⟩ : ∃ q, q = w.heap.size + 1 := ⟨_, rfl⟩
  obtain ⟨b2, h2⟩ : ∃ q, q = w.heap.size := ⟨_, rfl⟩
  have HNE := Lib.hid (show w.heap.size ≤ b2 ∧ w.heap.size ≤ b4 by omega)
  have hne1 : ¬ b2 = b4 := by omega
  have hne2 : ¬ b4 = b2 := by omega
  generalize ((w.alloc (.cells #[.int .i64 k, .string (ofL n), .string (ofL a), .string (ofL p)] 38)).alloc (.cells #[.int .i64 0, .string ⟨#[]⟩, .string ⟨#[]⟩, .string ⟨#[]⟩] 38)) = Wa at HB2 HX2 HR2 ⊢
  rw [← h4] at HR2 ⊢
  rw [← h2] at HX2 ⊢
  clear h4 h2
  have hx3 : ∀ m, (Wa.drewN m).cell? ⟨b2, 3, none⟩ = some (.string (ofL p)) := fun m => (HX2.out.drewN m).cell 3
  have hcases : (p = [] ∨ ∃ d, p[0]? = some d ∧ p ≠ [] ∧ (d ≠ 60 ∨ (d = 60 ∧ (8 ≤ p.length ∨ (p.length < 8 ∧ ∃ e, ([60, 47, 115, 99, 114, 105, 112, 116] : List UInt8)[p.length]? = some e ∧ e ≠ lowB c))))) := by
    cases p with
    | nil => exact .inl rfl
    | cons d q =>
      refine .inr ⟨d, rfl, by simp, ?_⟩
      by_cases hd : d = 60
      · refine .inr ⟨hd, ?_⟩
        rcases Nat.lt_or_ge (d :: q).length 8 with h1 | h1
        · refine .inr ⟨h1, _, List.getElem?_eq_getElem (by simpa using h1), fun e => HNO.out ⟨by rw [hd]; rfl, ?_⟩⟩
          rw [List.getElem?_eq_getElem (by simpa using h1), e]
        · exact .inl h1
      · exact .inl hd
  have HCAS := Lib.hid hcases
  clear hcases
  rcases HCAS.out with hA | ⟨d, hd0, hpe, hB | ⟨hd, hC | ⟨hlt, e, hie, hne⟩⟩⟩
  case' inl =>
    have f1 : (ofL p).toList.isEmpty = true := by rw [ofL_list, hA]; rfl
    clear hA
    go_quiet (fail)
  case' inr.inl =>
    have f1 : (ofL p).toList.isEmpty = false := by rw [ofL_list]; cases p with | nil => exact absurd rfl hpe | cons => rfl
    have f2 : ∀ W, (Instr.index 9 (.string (ofL p)) (.int .i64 0)).run Try.prog W = .ok (.int .u8 d.toNat) W := fun W => run_index_ofL p 0 d hd0 W
    have f3 : ((d.toNat : Int) == 60) = false := cf hB 60 rfl
    clear hd0 hpe hB
    go_quiet (fail)
  case' inr.inr.inl =>
    have f1 : (ofL p).toList.isEmpty = false := by rw [ofL_list]; cases p with | nil => exact absurd rfl hpe | cons => rfl
    have f2 : ∀ W, (Instr.index 9 (.string (ofL p)) (.int .i64 0)).run Try.prog W = .ok (.int .u8 d.toNat) W := fun W => run_index_ofL p 0 d hd0 W
    have f3 : ((d.toNat : Int) == 60) = true := ct hd 60 rfl
    have f4 : ¬ (p.length : Int) < 8 := by omega
    clear hd0 hpe hd hC
    go_quiet (fail)
  case' inr.inr.inr =>
    have f1 : (ofL p).toList.isEmpty = false := by rw [ofL_list]; cases p with | nil => exact absurd rfl hpe | cons => rfl
    have f2 : ∀ W, (Instr.index 9 (.string (ofL p)) (.int .i64 0)).run Try.prog W = .ok (.int .u8 d.toNat) W := fun W => run_index_ofL p 0 d hd0 W
    have f3 : ((d.toNat : Int) == 60) = true := ct hd 60 rfl
    have f4 : (p.length : Int) < 8 := by omega
    have f5 := fun W => run_index_ofL [60, 47, 115, 99, 114, 105, 112, 116] p.length e hie W
    have f6 : ((e.toNat : Int) == ((lowB c).toNat : Int)) = false := by rw [beq_eq_false_iff_ne]; intro h; exact hne ((u8_iff e (lowB c)).2 h)
    rw [show ofL [60, 47, 115, 99, 114, 105, 112, 116] = ⟨#[60, 47, 115, 99, 114, 105, 112, 116]⟩ from rfl] at f5
    clear hd0 hpe hd hlt hie hne
    go_quiet ((go_at_call 66; exact Calls.quiet_of_same (HL.out _)))
  all_goals
    have HX := Lib.hid (HX2.out.drewN nq)
    have HR := Lib.hid (HR2.out.drewN nq)
    have HB := Lib.hid (HB2.out.trans (Bel.draw Wa nq))
    generalize Wa.drewN nq = Wf at HX HR HB ⊢
    clear hx3 HX2 HR2 HB2 HCAS HNO
    obtain ⟨x0, x1, x2, x3⟩ := cells4 HX.out
    obtain ⟨r0, r1, r2, r3⟩ := cells4 HR.out
    obtain ⟨u0, u1, u2, u3⟩ := frees4 HX.out
    obtain ⟨v0, v1, v2, v3⟩ := frees4 HR.out
    go_wp2_with fail
  all_goals first
    | ((with_reducible apply st_set (k := 4) (g := b4)); (case hf => rfl); (case hp => rfl); (case hB => first | with_reducible exact HR.out.far hne2 _ | with_reducible exact (HR.out.far hne2 _).far hne2 _ | with_reducible exact ((HR.out.far hne2 _).far hne2 _).far hne2 _); (case hb => first | with_reducible exact bel_set HB.out HNE.out.1 _ _ | with_reducible exact bel_set (bel_set HB.out HNE.out.1 _ _) HNE.out.1 _ _ | with_reducible exact bel_set (bel_set (bel_set HB.out HNE.out.1 _ _) HNE.out.1 _ _) HNE.out.1 _ _); (case hg => exact HNE.out.2); clear x0 x1 x2 x3 r0 r1 r2 r3 u0 u1 u2 u3 v0 v1 v2 v3 HX HR HB HNE HL; unfold rawV; simp only [*, if_true, if_false, Bool.false_eq_true, or_true, true_or, or_self, beq_self_eq_true, Int.reduceBEq]; first | done | rfl)
    | trace_state
set_option maxRecDepth 100000 in
set_option maxHeartbeats 12800000 in
theorem rraw_no19 (k : Int) (n a p : List UInt8) (c : UInt8) (w : World) (hk : 19 ≤ k) (hp : p.length ≤ 100000) (hno : ¬ (p.head? = some 60 ∧ ([60, 47, 115, 116, 121, 108, 101] : List UInt8)[p.length]? = some (lowB c))) :
    Calls Try.prog 37 #[stV k (ofL n) (ofL a) (ofL p), .int .u8 c.toNat] w (SvV (rawV k 19 20 21 n a p c) w) := by
  unfold stV
  have HL := Lib.hid (fun W => rlower_c c W)
  have HB2 := Lib.hid ((Bel.alloc w (.cells #[.int .i64 k, .string (ofL n), .string (ofL a), .string (ofL p)] 38)).trans (Bel.alloc (w.alloc (.cells #[.int .i64 k, .string (ofL n), .string (ofL a), .string (ofL p)] 38)) (.cells #[.int .i64 0, .string ⟨#[]⟩, .string ⟨#[]⟩, .string ⟨#[]⟩] 38)))
  have HX2 := Lib.hid ((Blk.new w 38 [.int .i64 k, .string (ofL n), .string (ofL a), .string (ofL p)]).alloc (.cells #[.int .i64 0, .string ⟨#[]⟩, .string ⟨#[]⟩, .string ⟨#[]⟩] 38))
  have HR2 := Lib.hid (blk_at1h w (.cells #[.int .i64 k, .string (ofL n), .string (ofL a), .string (ofL p)] 38) 38 [.int .i64 0, .string ⟨#[]⟩, .string ⟨#[]⟩, .string ⟨#[]⟩])
  have HNO := Lib.hid hno
  clear hno
  have hz : (ofL p).size = p.length := rfl
  go_enter Try.func37, Try.ntmps37
  go_wp2_with fail
  obtain ⟨b4, h4⟩ : ∃ q, q = w.heap.size + 1 := ⟨_, rfl⟩
  obtain ⟨b2, h2⟩ : ∃ q, q = w.heap.size := ⟨_, rfl⟩
  have HNE := Lib.hid (show w.heap.size ≤ b2 ∧ w.heap.size ≤ b4 by omega)
  have hne1 : ¬ b2 = b4 := by omega
  have hne2 : ¬ b4 = b2 := by omega
  generalize ((w.alloc (.cells #[.int .i64 k, .string (ofL n), .string (ofL a), .string (ofL p)] 38)).alloc (.cells #[.int .i64 0, .string ⟨#[]⟩, .string ⟨#[]⟩, .string ⟨#[]⟩] 38)) = Wa at HB2 HX2 HR2 ⊢
  rw [← h4] at HR2 ⊢
  rw [← h2] at HX2 ⊢
  clear h4 h2
  have hx3 : ∀ m, (Wa.drewN m).cell? ⟨b2, 3, none⟩ = some (.string (ofL p)) := fun m => (HX2.out.drewN m).cell 3
  have hcases : (p = [] ∨ ∃ d, p[0]? = some d ∧ p ≠ [] ∧ (d ≠ 60 ∨ (d = 60 ∧ (7 ≤ p.length ∨ (p.length < 7 ∧ ∃ e, ([60, 47, 115, 116, 121, 108, 101] : List UInt8)[p.length]? = some e ∧ e ≠ lowB c))))) := by
    cases p with
    | nil => exact .inl rfl
    | cons d q =>
      refine .inr ⟨d, rfl, by simp, ?_⟩
      by_cases hd : d = 60
      · refine .inr ⟨hd, ?_⟩
        rcases Nat.lt_or_ge (d :: q).length 7 with h1 | h1
        · refine .inr ⟨h1, _, List.getElem?_eq_getElem (by simpa using h1), fun e => HNO.out ⟨by rw [hd]; rfl, ?_⟩⟩
          rw [List.getElem?_eq_getElem (by simpa using h1), e]
        · exact .inl h1
      · exact .inl hd
  have HCAS := Lib.hid hcases
  clear hcases
  rcases HCAS.out with hA | ⟨d, hd0, hpe, hB | ⟨hd, hC | ⟨hlt, e, hie, hne⟩⟩⟩
  case' inl =>
    have f1 : (ofL p).toList.isEmpty = true := by rw [ofL_list, hA]; rfl
    clear hA
    go_quiet (fail)
  case' inr.inl =>
    have f1 : (ofL p).toList.isEmpty = false := by rw [ofL_list]; cases p with | nil => exact absurd rfl hpe | cons => rfl
    have f2 : ∀ W, (Instr.index 9 (.string (ofL p)) (.int .i64 0)).run Try.prog W = .ok (.int .u8 d.toNat) W := fun W => run_index_ofL p 0 d hd0 W
    have f3 : ((d.toNat : Int) == 60) = false := cf hB 60 rfl
    clear hd0 hpe hB
    go_quiet (fail)
  case' inr.inr.inl =>
    have f1 : (ofL p).toList.isEmpty = false := by rw [ofL_list]; cases p with | nil => exact absurd rfl hpe | cons => rfl
    have f2 : ∀ W, (Instr.index 9 (.string (ofL p)) (.int .i64 0)).run Try.prog W = .ok (.int .u8 d.toNat) W := fun W => run_index_ofL p 0 d hd0 W
    have f3 : ((d.toNat : Int) == 60) = true := ct hd 60 rfl
    have f4 : ¬ (p.length : Int) < 7 := by omega
    clear hd0 hpe hd hC
    go_quiet (fail)
  case' inr.inr.inr =>
    have f1 : (ofL p).toList.isEmpty = false := by rw [ofL_list]; cases p with | nil => exact absurd rfl hpe | cons => rfl
    have f2 : ∀ W, (Instr.index 9 (.string (ofL p)) (.int .i64 0)).run Try.prog W = .ok (.int .u8 d.toNat) W := fun W => run_index_ofL p 0 d hd0 W
    have f3 : ((d.toNat : Int) == 60) = true := ct hd 60 rfl
    have f4 : (p.length : Int) < 7 := by omega
    have f5 := fun W => run_index_ofL [60, 47, 115, 116, 121, 108, 101] p.length e hie W
    have f6 : ((e.toNat : Int) == ((lowB c).toNat : Int)) = false := by rw [beq_eq_false_iff_ne]; intro h; exact hne ((u8_iff e (lowB c)).2 h)
    rw [show ofL [60, 47, 115, 116, 121, 108, 101] = ⟨#[60, 47, 115, 116, 121, 108, 101]⟩ from rfl] at f5
    clear hd0 hpe hd hlt hie hne
    go_quiet ((go_at_call 66; exact Calls.quiet_of_same (HL.out _)))
  all_goals
    have HX := Lib.hid (HX2.out.drewN nq)
    have HR := Lib.hid (HR2.out.drewN nq)
    have HB := Lib.hid (HB2.out.trans (Bel.draw Wa nq))
    generalize Wa.drewN nq = Wf at HX HR HB ⊢
    clear hx3 HX2 HR2 HB2 HCAS HNO
    obtain ⟨x0, x1, x2, x3⟩ := cells4 HX.out
    obtain ⟨r0, r1, r2, r3⟩ := cells4 HR.out
    obtain ⟨u0, u1, u2, u3⟩ := frees4 HX.out
    obtain ⟨v0, v1, v2, v3⟩ := frees4 HR.out
    go_wp2_with fail
  all_goals first
    | ((with_reducible apply st_set (k := 4) (g := b4)); (case hf => rfl); (case hp => rfl); (case hB => first | with_reducible exact HR.out.far hne2 _ | with_reducible exact (HR.out.far hne2 _).far hne2 _ | with_reducible exact ((HR.out.far hne2 _).far hne2 _).far hne2 _); (case hb => first | with_reducible exact bel_set HB.out HNE.out.1 _ _ | with_reducible exact bel_set (bel_set HB.out HNE.out.1 _ _) HNE.out.1 _ _ | with_reducible exact bel_set (bel_set (bel_set HB.out HNE.out.1 _ _) HNE.out.1 _ _) HNE.out.1 _ _); (case hg => exact HNE.out.2); clear x0 x1 x2 x3 r0 r1 r2 r3 u0 u1 u2 u3 v0 v1 v2 v3 HX HR HB HNE HL; unfold rawV; simp only [*, if_true, if_false, Bool.false_eq_true, or_true, true_or, or_self, beq_self_eq_true, Int.reduceBEq]; first | done | rfl)
    | trace_state
end Go.Proofs.Yteclclidibmajaa

namespace Go.Proofs.Yteclclidibmajaa
open Go.RowKit Go.BigFrame
set_option linter.unusedVariables false
set_option linter.unusedSimpArgs false
set_option maxRecDepth 100000

/-- Where an end string goes on, in the words of a walk. -/
def rawY (k : Int) (n a p : List UInt8) (c : UInt8) (E : List UInt8) : Value :=
  if ((ofL (p ++ [lowB c])).toList == E) = true then stV 15 ⟨#[]⟩ ⟨#[]⟩ ⟨#[]⟩ else stV k (ofL n) (ofL a) (ofL (p ++ [lowB c]))
set_option maxRecDepth 100000 in
set_option maxHeartbeats 12800000 in
theorem rraw_yes16 (k : Int) (n a p : List UInt8) (c : UInt8) (w : World) (hk : k < 19) (hp : p.length ≤ 100000) (hd0 : p[0]? = some 60) (hie : ([60, 47, 115, 99, 114, 105, 112, 116] : List UInt8)[p.length]? = some (lowB c)) :
    Calls Try.prog 37 #[stV k (ofL n) (ofL a) (ofL p), .int .u8 c.toNat] w (SvV (rawY k n a p c [60, 47, 115, 99, 114, 105, 112, 116]) w) := by
  unfold stV
  have HL := Lib.hid (fun W => rlower_c c W)
  have HB2 := Lib.hid ((Bel.alloc w (.cells #[.int .i64 k, .string (ofL n), .string (ofL a), .string (ofL p)] 38)).trans (Bel.alloc (w.alloc (.cells #[.int .i64 k, .string (ofL n), .string (ofL a), .string (ofL p)] 38)) (.cells #[.int .i64 0, .string ⟨#[]⟩, .string ⟨#[]⟩, .string ⟨#[]⟩] 38)))
  have HX2 := Lib.hid ((Blk.new w 38 [.int .i64 k, .string (ofL n), .string (ofL a), .string (ofL p)]).alloc (.cells #[.int .i64 0, .string ⟨#[]⟩, .string ⟨#[]⟩, .string ⟨#[]⟩] 38))
  have HR2 := Lib.hid (blk_at1h w (.cells #[.int .i64 k, .string (ofL n), .string (ofL a), .string (ofL p)] 38) 38 [.int .i64 0, .string ⟨#[]⟩, .string ⟨#[]⟩, .string ⟨#[]⟩])
  have hz : (ofL p).size = p.length := rfl
  have hlt : p.length < 8 := by have := (List.getElem?_eq_some_iff.1 hie).1; simpa using this
  have f1 : (ofL p).toList.isEmpty = false := by rw [ofL_list]; cases p with | nil => simp at hd0 | cons => rfl
  have f2 : ∀ W, (Instr.index 9 (.string (ofL p)) (.int .i64 0)).run Try.prog W = .ok (.int .u8 60) W := fun W => run_index_ofL p 0 60 hd0 W
  have f4 : (p.length : Int) < 8 := by omega
  have f5 := fun W => run_index_ofL [60, 47, 115, 99, 114, 105, 112, 116] p.length (lowB c) hie W
  rw [show ofL [60, 47, 115, 99, 114, 105, 112, 116] = ⟨#[60, 47, 115, 99, 114, 105, 112, 116]⟩ from rfl] at f5
  clear hd0 hie
  go_enter Try.func37, Try.ntmps37
  go_wp2_with fail
  obtain ⟨b4, h4⟩ : ∃ q, q = w.heap.size + 1 := ⟨_, rfl⟩
  obtain ⟨b2, h2⟩ : ∃ q, q = w.heap.size := ⟨_, rfl⟩
  have HNE := Lib.hid (show w.heap.size ≤ b2 ∧ w.heap.size ≤ b4 by omega)
  have hne1 : ¬ b2 = b4 := by omega
  have hne2 : ¬ b4 = b2 := by omega
  generalize ((w.alloc (.cells #[.int .i64 k, .string (ofL n), .string (ofL a), .string (ofL p)] 38)).alloc (.cells #[.int .i64 0, .string ⟨#[]⟩, .string ⟨#[]⟩, .string ⟨#[]⟩] 38)) = Wa at HB2 HX2 HR2 ⊢
  rw [← h4] at HR2 ⊢
  rw [← h2] at HX2 ⊢
  clear h4 h2
  have hx3 : ∀ m, (Wa.drewN m).cell? ⟨b2, 3, none⟩ = some (.string (ofL p)) := fun m => (HX2.out.drewN m).cell 3
  go_quiet ((go_at_call 66; exact Calls.quiet_of_same (HL.out _)))
  have HX := Lib.hid (HX2.out.drewN nq)
  have HR := Lib.hid (HR2.out.drewN nq)
  have HB := Lib.hid (HB2.out.trans (Bel.draw Wa nq))
  generalize Wa.drewN nq = Wf at HX HR HB ⊢
  clear hx3 HX2 HR2 HB2 f1 f2 f4 f5
  go_wp2_with fail
  refine region_begin (T := [b2]) (by kernel_rfl) ?_
  have HXd := Lib.hid HX.out.drew
  have HRd := Lib.hid HR.out.drew
  have HBd := Lib.hid (HB.out.trans (Bel.drew _))
  clear HX HR HB
  generalize Wf.drew = Wd at HXd HRd HBd ⊢
  have hS0 : Only [b2] Wd Wd := Only.refl _ _
  have hS1 : Only [b2] Wd (Wd.alloc (.cells #[.int .u8 (lowB c).toNat] 5)) := (Only.refl _ _).alloc _
  have q3 := HXd.out.cell 3
  have q3' := (HXd.out.alloc (.cells #[.int .u8 (lowB c).toNat] 5)).cell 3
  simp only [List.getElem?_cons_zero, List.getElem?_cons_succ] at q3 q3'
  have ho := one_str (lowB c) Wd
  refine reg_seg [true, false, true] 7 hS0 (by kernel_rfl) (by kernel_rfl) (by kernel_rfl) rfl (fun _ _ d _ _ h => by cases d <;> exact h) ?_
  repeat (first | with_reducible refine wpMask_pass ?_ | (refine wpMask_want (by rfl) (fun K hK => ?_); go_big_quiet_op; refine hK _ ?_; clear hK K))
  with_reducible refine wpMask_nil ?_
  apply once
  case main =>
    intro key
    refine wpAnyH_all (rs := [1, 3]) (by kernel_rfl) (by simp) (fun i hi => ?_)
    simp only [List.mem_cons, List.not_mem_nil, or_false] at hi
    rcases hi with rfl | rfl
    case' inl =>
      refine op_make0 (v := .string (ofL p)) (w1 := Wd) rfl (by rfl) (by go_simp) hS0 ?_
      simp only [List.getElem_toArray, List.getElem_cons_zero, List.getElem_cons_succ, Act.put, List.setIfInBounds_toArray, List.set_cons_zero, List.set_cons_succ]
      refine reg_call 3 (by kernel_rfl) rfl (by rfl) (by go_simp; exact ⟨rfl, rfl⟩) ?_
      refine (HL.out _).mono ?_
      rintro e wq ⟨rfl, hq⟩
      rw [hq]
      clear hq wq
      refine ⟨_, rfl, hS0, ?_⟩
      simp only [List.getElem_toArray, List.getElem_cons_zero, List.getElem_cons_succ, Act.put, List.setIfInBounds_toArray, List.set_cons_zero, List.set_cons_succ]
      refine reg_make 4 (v := .slice (some ⟨Wd.heap.size, 0, none⟩) 1 1) (w1 := Wd.alloc (.cells #[.int .u8 (lowB c).toNat] 5)) (by kernel_rfl) rfl (by rfl) (by go_simp) hS1 ?_
      simp only [List.getElem_toArray, List.getElem_cons_zero, List.getElem_cons_succ, Act.put, List.setIfInBounds_toArray, List.set_cons_zero, List.set_cons_succ]
      refine reg_make 5 (v := .string ⟨#[lowB c]⟩) (w1 := Wd.alloc (.cells #[.int .u8 (lowB c).toNat] 5)) (by kernel_rfl) rfl (by rfl) (by go_simp) hS1 ?_
      simp only [List.getElem_toArray, List.getElem_cons_zero, List.getElem_cons_succ, Act.put, List.setIfInBounds_toArray, List.set_cons_zero, List.set_cons_succ]
      exact key
    case' inr =>
      refine op_call0 rfl (by rfl) (by go_simp; exact ⟨rfl, rfl⟩) ?_
      refine (HL.out _).mono ?_
      rintro e wq ⟨rfl, hq⟩
      rw [hq]
      clear hq wq
      refine ⟨_, rfl, hS0, ?_⟩
      simp only [List.getElem_toArray, List.getElem_cons_zero, List.getElem_cons_succ, Act.put, List.setIfInBounds_toArray, List.set_cons_zero, List.set_cons_succ]
      refine wpAnyH_all (rs := [1, 4]) (by kernel_rfl) (by simp) (fun i hi => ?_)
      simp only [List.mem_cons, List.not_mem_nil, or_false] at hi
      rcases hi with rfl | rfl
      case' inl =>
        refine op_make0 (v := .string (ofL p)) (w1 := Wd) rfl (by rfl) (by go_simp) hS0 ?_
        simp only [List.getElem_toArray, List.getElem_cons_zero, List.getElem_cons_succ, Act.put, List.setIfInBounds_toArray, List.set_cons_zero, List.set_cons_succ]
        refine reg_make 4 (v := .slice (some ⟨Wd.heap.size, 0, none⟩) 1 1) (w1 := Wd.alloc (.cells #[.int .u8 (lowB c).toNat] 5)) (by kernel_rfl) rfl (by rfl) (by go_simp) hS1 ?_
        simp only [List.getElem_toArray, List.getElem_cons_zero, List.getElem_cons_succ, Act.put, List.setIfInBounds_toArray, List.set_cons_zero, List.set_cons_succ]
        refine reg_make 5 (v := .string ⟨#[lowB c]⟩) (w1 := Wd.alloc (.cells #[.int .u8 (lowB c).toNat] 5)) (by kernel_rfl) rfl (by rfl) (by go_simp) hS1 ?_
        simp only [List.getElem_toArray, List.getElem_cons_zero, List.getElem_cons_succ, Act.put, List.setIfInBounds_toArray, List.set_cons_zero, List.set_cons_succ]
        exact key
      case' inr =>
        refine op_make0 (v := .slice (some ⟨Wd.heap.size, 0, none⟩) 1 1) (w1 := Wd.alloc (.cells #[.int .u8 (lowB c).toNat] 5)) rfl (by rfl) (by go_simp) hS1 ?_
        simp only [List.getElem_toArray, List.getElem_cons_zero, List.getElem_cons_succ, Act.put, List.setIfInBounds_toArray, List.set_cons_zero, List.set_cons_succ]
        refine wpAnyH_all (rs := [1, 5]) (by kernel_rfl) (by simp) (fun i hi => ?_)
        simp only [List.mem_cons, List.not_mem_nil, or_false] at hi
        rcases hi with rfl | rfl
        case' inl =>
          refine op_make0 (v := .string (ofL p)) (w1 := (Wd.alloc (.cells #[.int .u8 (lowB c).toNat] 5))) rfl (by rfl) (by go_simp) hS1 ?_
          simp only [List.getElem_toArray, List.getElem_cons_zero, List.getElem_cons_succ, Act.put, List.setIfInBounds_toArray, List.set_cons_zero, List.set_cons_succ]
          refine reg_make 5 (v := .string ⟨#[lowB c]⟩) (w1 := Wd.alloc (.cells #[.int .u8 (lowB c).toNat] 5)) (by kernel_rfl) rfl (by rfl) (by go_simp) hS1 ?_
          simp only [List.getElem_toArray, List.getElem_cons_zero, List.getElem_cons_succ, Act.put, List.setIfInBounds_toArray, List.set_cons_zero, List.set_cons_succ]
          exact key
        case' inr =>
          refine op_make0 (v := .string ⟨#[lowB c]⟩) (w1 := Wd.alloc (.cells #[.int .u8 (lowB c).toNat] 5)) rfl (by rfl) (by go_simp) hS1 ?_
          simp only [List.getElem_toArray, List.getElem_cons_zero, List.getElem_cons_succ, Act.put, List.setIfInBounds_toArray, List.set_cons_zero, List.set_cons_succ]
          refine reg_make 1 (v := .string (ofL p)) (w1 := (Wd.alloc (.cells #[.int .u8 (lowB c).toNat] 5))) (by kernel_rfl) rfl (by rfl) (by go_simp) hS1 ?_
          simp only [List.getElem_toArray, List.getElem_cons_zero, List.getElem_cons_succ, Act.put, List.setIfInBounds_toArray, List.set_cons_zero, List.set_cons_succ]
          exact key
  case tail =>
    have hX := (HXd.out.alloc (.cells #[.int .u8 (lowB c).toNat] 5)).set_ 3 (.string (ofL (p ++ [lowB c])))
    simp only [List.set_cons_succ, List.set_cons_zero] at hX
    have hS2 : Only [b2] Wd ((Wd.alloc (.cells #[.int .u8 (lowB c).toNat] 5)).setCell ⟨b2, 3, none⟩ (.string (ofL (p ++ [lowB c])))) := hS1.setCell (.inl (by simp)) _
    have hfz := (HXd.out.alloc (.cells #[.int .u8 (lowB c).toNat] 5)).free 3
    refine reg_make 6 (v := .string (ofL (p ++ [lowB c]))) (w1 := Wd.alloc (.cells #[.int .u8 (lowB c).toNat] 5)) (by kernel_rfl) rfl (by rfl) (by rw [← ofL_snoc]; go_simp; omega) hS1 ?_
    simp only [List.getElem_toArray, List.getElem_cons_zero, List.getElem_cons_succ, Act.put, List.setIfInBounds_toArray, List.set_cons_zero, List.set_cons_succ]
    refine reg_make 7 (v := .pointer (some ⟨b2, 3, none⟩)) (w1 := Wd.alloc (.cells #[.int .u8 (lowB c).toNat] 5)) (by kernel_rfl) rfl (by rfl) (by go_simp) hS1 ?_
    simp only [List.getElem_toArray, List.getElem_cons_zero, List.getElem_cons_succ, Act.put, List.setIfInBounds_toArray, List.set_cons_zero, List.set_cons_succ]
    refine reg_store 8 (w1 := (Wd.alloc (.cells #[.int .u8 (lowB c).toNat] 5)).setCell ⟨b2, 3, none⟩ (.string (ofL (p ++ [lowB c])))) (by kernel_rfl) rfl (by rfl) (by go_simp) hS2 ?_
    simp only [List.getElem_toArray, List.getElem_cons_zero, List.getElem_cons_succ, Act.put, List.setIfInBounds_toArray, List.set_cons_zero, List.set_cons_succ]
    refine region_end (by kernel_rfl) ?_
    have HX := Lib.hid hX
    have HR := Lib.hid ((HRd.out.alloc (.cells #[.int .u8 (lowB c).toNat] 5)).far (p := ⟨b2, 3, none⟩) hne2 (.string (ofL (p ++ [lowB c]))))
    have HB := Lib.hid (bel_set (HBd.out.trans (Bel.alloc Wd (.cells #[.int .u8 (lowB c).toNat] 5))) HNE.out.1 3 (.string (ofL (p ++ [lowB c]))))
    generalize (Wd.alloc (.cells #[.int .u8 (lowB c).toNat] 5)).setCell ⟨b2, 3, none⟩ (.string (ofL (p ++ [lowB c]))) = Wg at HX HR HB ⊢
    clear hX hS2 hfz hS0 hS1 q3 q3' ho HXd HRd HBd
    obtain ⟨x0, x1, x2, x3⟩ := cells4 HX.out
    obtain ⟨r0, r1, r2, r3⟩ := cells4 HR.out
    obtain ⟨v0, v1, v2, v3⟩ := frees4 HR.out
    go_wp2_with fail
    all_goals first
      | ((with_reducible apply st_set (k := 4) (g := b4)); (case hf => rfl); (case hp => rfl); (case hB => exact HR.out); (case hb => exact HB.out); (case hg => exact HNE.out.2); clear x0 x1 x2 x3 r0 r1 r2 r3 v0 v1 v2 v3 HX HR HB HNE HL; unfold rawY; simp only [*, if_true, if_false, Bool.false_eq_true]; first | done | rfl)
      | trace_state
set_option maxRecDepth 100000 in
set_option maxHeartbeats 12800000 in
theorem rraw_yes19 (k : Int) (n a p : List UInt8) (c : UInt8) (w : World) (hk : 19 ≤ k) (hp : p.length ≤ 100000) (hd0 : p[0]? = some 60) (hie : ([60, 47, 115, 116, 121, 108, 101] : List UInt8)[p.length]? = some (lowB c)) :
    Calls Try.prog 37 #[stV k (ofL n) (ofL a) (ofL p), .int .u8 c.toNat] w (SvV (rawY k n a p c [60, 47, 115, 116, 121, 108, 101]) w) := by
  unfold stV
  have HL := Lib.hid (fun W => rlower_c c W)
  have HB2 := Lib.hid ((Bel.alloc w (.cells #[.int .i64 k, .string (ofL n), .string (ofL a), .string (ofL p)] 38)).trans (Bel.alloc (w.alloc (.cells #[.int .i64 k, .string (ofL n), .string (ofL a), .string (ofL p)] 38)) (.cells #[.int .i64 0, .string ⟨#[]⟩, .string ⟨#[]⟩, .string ⟨#[]⟩] 38)))
  have HX2 := Lib.hid ((Blk.new w 38 [.int .i64 k, .string (ofL n), .string (ofL a), .string (ofL p)]).alloc (.cells #[.int .i64 0, .string ⟨#[]⟩, .string ⟨#[]⟩, .string ⟨#[]⟩] 38))
  have HR2 := Lib.hid (blk_at1h w (.cells #[.int .i64 k, .string (ofL n), .string (ofL a), .string (ofL p)] 38) 38 [.int .i64 0, .string ⟨#[]⟩, .string ⟨#[]⟩, .string ⟨#[]⟩])
  have hz : (ofL p).size = p.length := rfl
  have hlt : p.length < 7 := by have := (List.getElem?_eq_some_iff.1 hie).1; simpa using this
  have f1 : (ofL p).toList.isEmpty = false := by rw [ofL_list]; cases p with | nil => simp at hd0 | cons => rfl
  have f2 : ∀ W, (Instr.index 9 (.string (ofL p)) (.int .i64 0)).run Try.prog W = .ok (.int .u8 60) W := fun W => run_index_ofL p 0 60 hd0 W
  have f4 : (p.length : Int) < 7 := by omega
  have f5 := fun W => run_index_ofL [60, 47, 115, 116, 121, 108, 101] p.length (lowB c) hie W
  rw [show ofL [60, 47, 115, 116, 121, 108, 101] = ⟨#[60, 47, 115, 116, 121, 108, 101]⟩ from rfl] at f5
  clear hd0 hie
  go_enter Try.func37, Try.ntmps37
  go_wp2_with fail
  obtain ⟨b4, h4⟩ : ∃ q, q = w.heap.size + 1 := ⟨_, rfl⟩
  obtain ⟨b2, h2⟩ : ∃ q, q = w.heap.size := ⟨_, rfl⟩
  have HNE := Lib.hid (show w.heap.size ≤ b2 ∧ w.heap.size ≤ b4 by omega)
  have hne1 : ¬ b2 = b4 := by omega
  have hne2 : ¬ b4 = b2 := by omega
  generalize ((w.alloc (.cells #[.int .i64 k, .string (ofL n), .string (ofL a), .string (ofL p)] 38)).alloc (.cells #[.int .i64 0, .string ⟨#[]⟩, .string ⟨#[]⟩, .string ⟨#[]⟩] 38)) = Wa at HB2 HX2 HR2 ⊢
  rw [← h4] at HR2 ⊢
  rw [← h2] at HX2 ⊢
  clear h4 h2
  have hx3 : ∀ m, (Wa.drewN m).cell? ⟨b2, 3, none⟩ = some (.string (ofL p)) := fun m => (HX2.out.drewN m).cell 3
  go_quiet ((go_at_call 66; exact Calls.quiet_of_same (HL.out _)))
  have HX := Lib.hid (HX2.out.drewN nq)
  have HR := Lib.hid (HR2.out.drewN nq)
  have HB := Lib.hid (HB2.out.trans (Bel.draw Wa nq))
  generalize Wa.drewN nq = Wf at HX HR HB ⊢
  clear hx3 HX2 HR2 HB2 f1 f2 f4 f5
  go_wp2_with fail
  refine region_begin (T := [b2]) (by kernel_rfl) ?_
  have HXd := Lib.hid HX.out.drew
  have HRd := Lib.hid HR.out.drew
  have HBd := Lib.hid (HB.out.trans (Bel.drew _))
  clear HX HR HB
  generalize Wf.drew = Wd at HXd HRd HBd ⊢
  have hS0 : Only [b2] Wd Wd := Only.refl _ _
  have hS1 : Only [b2] Wd (Wd.alloc (.cells #[.int .u8 (lowB c).toNat] 5)) := (Only.refl _ _).alloc _
  have q3 := HXd.out.cell 3
  have q3' := (HXd.out.alloc (.cells #[.int .u8 (lowB c).toNat] 5)).cell 3
  simp only [List.getElem?_cons_zero, List.getElem?_cons_succ] at q3 q3'
  have ho := one_str (lowB c) Wd
  refine reg_seg [true, false, true] 7 hS0 (by kernel_rfl) (by kernel_rfl) (by kernel_rfl) rfl (fun _ _ d _ _ h => by cases d <;> exact h) ?_
  repeat (first | with_reducible refine wpMask_pass ?_ | (refine wpMask_want (by rfl) (fun K hK => ?_); go_big_quiet_op; refine hK _ ?_; clear hK K))
  with_reducible refine wpMask_nil ?_
  apply once
  case main =>
    intro key
    refine wpAnyH_all (rs := [1, 3]) (by kernel_rfl) (by simp) (fun i hi => ?_)
    simp only [List.mem_cons, List.not_mem_nil, or_false] at hi
    rcases hi with rfl | rfl
    case' inl =>
      refine op_make0 (v := .string (ofL p)) (w1 := Wd) rfl (by rfl) (by go_simp) hS0 ?_
      simp only [List.getElem_toArray, List.getElem_cons_zero, List.getElem_cons_succ, Act.put, List.setIfInBounds_toArray, List.set_cons_zero, List.set_cons_succ]
      refine reg_call 3 (by kernel_rfl) rfl (by rfl) (by go_simp; exact ⟨rfl, rfl⟩) ?_
      refine (HL.out _).mono ?_
      rintro e wq ⟨rfl, hq⟩
      rw [hq]
      clear hq wq
      refine ⟨_, rfl, hS0, ?_⟩
      simp only [List.getElem_toArray, List.getElem_cons_zero, List.getElem_cons_succ, Act.put, List.setIfInBounds_toArray, List.set_cons_zero, List.set_cons_succ]
      refine reg_make 4 (v := .slice (some ⟨Wd.heap.size, 0, none⟩) 1 1) (w1 := Wd.alloc (.cells #[.int .u8 (lowB c).toNat] 5)) (by kernel_rfl) rfl (by rfl) (by go_simp) hS1 ?_
      simp only [List.getElem_toArray, List.getElem_cons_zero, List.getElem_cons_succ, Act.put, List.setIfInBounds_toArray, List.set_cons_zero, List.set_cons_succ]
      refine reg_make 5 (v := .string ⟨#[lowB c]⟩) (w1 := Wd.alloc (.cells #[.int .u8 (lowB c).toNat] 5)) (by kernel_rfl) rfl (by rfl) (by go_simp) hS1 ?_
      simp only [List.getElem_toArray, List.getElem_cons_zero, List.getElem_cons_succ, Act.put, List.setIfInBounds_toArray, List.set_cons_zero, List.set_cons_succ]
      exact key
    case' inr =>
      refine op_call0 rfl (by rfl) (by go_simp; exact ⟨rfl, rfl⟩) ?_
      refine (HL.out _).mono ?_
      rintro e wq ⟨rfl, hq⟩
      rw [hq]
      clear hq wq
      refine ⟨_, rfl, hS0, ?_⟩
      simp only [List.getElem_toArray, List.getElem_cons_zero, List.getElem_cons_succ, Act.put, List.setIfInBounds_toArray, List.set_cons_zero, List.set_cons_succ]
      refine wpAnyH_all (rs := [1, 4]) (by kernel_rfl) (by simp) (fun i hi => ?_)
      simp only [List.mem_cons, List.not_mem_nil, or_false] at hi
      rcases hi with rfl | rfl
      case' inl =>
        refine op_make0 (v := .string (ofL p)) (w1 := Wd) rfl (by rfl) (by go_simp) hS0 ?_
        simp only [List.getElem_toArray, List.getElem_cons_zero, List.getElem_cons_succ, Act.put, List.setIfInBounds_toArray, List.set_cons_zero, List.set_cons_succ]
        refine reg_make 4 (v := .slice (some ⟨Wd.heap.size, 0, none⟩) 1 1) (w1 := Wd.alloc (.cells #[.int .u8 (lowB c).toNat] 5)) (by kernel_rfl) rfl (by rfl) (by go_simp) hS1 ?_
        simp only [List.getElem_toArray, List.getElem_cons_zero, List.getElem_cons_succ, Act.put, List.setIfInBounds_toArray, List.set_cons_zero, List.set_cons_succ]
        refine reg_make 5 (v := .string ⟨#[lowB c]⟩) (w1 := Wd.alloc (.cells #[.int .u8 (lowB c).toNat] 5)) (by kernel_rfl) rfl (by rfl) (by go_simp) hS1 ?_
        simp only [List.getElem_toArray, List.getElem_cons_zero, List.getElem_cons_succ, Act.put, List.setIfInBounds_toArray, List.set_cons_zero, List.set_cons_succ]
        exact key
      case' inr =>
        refine op_make0 (v := .slice (some ⟨Wd.heap.size, 0, none⟩) 1 1) (w1 := Wd.alloc (.cells #[.int .u8 (lowB c).toNat] 5)) rfl (by rfl) (by go_simp) hS1 ?_
        simp only [List.getElem_toArray, List.getElem_cons_zero, List.getElem_cons_succ, Act.put, List.setIfInBounds_toArray, List.set_cons_zero, List.set_cons_succ]
        refine wpAnyH_all (rs := [1, 5]) (by kernel_rfl) (by simp) (fun i hi => ?_)
        simp only [List.mem_cons, List.not_mem_nil, or_false] at hi
        rcases hi with rfl | rfl
        case' inl =>
          refine op_make0 (v := .string (ofL p)) (w1 := (Wd.alloc (.cells #[.int .u8 (lowB c).toNat] 5))) rfl (by rfl) (by go_simp) hS1 ?_
          simp only [List.getElem_toArray, List.getElem_cons_zero, List.getElem_cons_succ, Act.put, List.setIfInBounds_toArray, List.set_cons_zero, List.set_cons_succ]
          refine reg_make 5 (v := .string ⟨#[lowB c]⟩) (w1 := Wd.alloc (.cells #[.int .u8 (lowB c).toNat] 5)) (by kernel_rfl) rfl (by rfl) (by go_simp) hS1 ?_
          simp only [List.getElem_toArray, List.getElem_cons_zero, List.getElem_cons_succ, Act.put, List.setIfInBounds_toArray, List.set_cons_zero, List.set_cons_succ]
          exact key
        case' inr =>
          refine op_make0 (v := .string ⟨#[lowB c]⟩) (w1 := Wd.alloc (.cells #[.int .u8 (lowB c).toNat] 5)) rfl (by rfl) (by go_simp) hS1 ?_
          simp only [List.getElem_toArray, List.getElem_cons_zero, List.getElem_cons_succ, Act.put, List.setIfInBounds_toArray, List.set_cons_zero, List.set_cons_succ]
          refine reg_make 1 (v := .string (ofL p)) (w1 := (Wd.alloc (.cells #[.int .u8 (lowB c).toNat] 5))) (by kernel_rfl) rfl (by rfl) (by go_simp) hS1 ?_
          simp only [List.getElem_toArray, List.getElem_cons_zero, List.getElem_cons_succ, Act.put, List.setIfInBounds_toArray, List.set_cons_zero, List.set_cons_succ]
          exact key
  case tail =>
    have hX := (HXd.out.alloc (.cells #[.int .u8 (lowB c).toNat] 5)).set_ 3 (.string (ofL (p ++ [lowB c])))
    simp only [List.set_cons_succ, List.set_cons_zero] at hX
    have hS2 : Only [b2] Wd ((Wd.alloc (.cells #[.int .u8 (lowB c).toNat] 5)).setCell ⟨b2, 3, none⟩ (.string (ofL (p ++ [lowB c])))) := hS1.setCell (.inl (by simp)) _
    have hfz := (HXd.out.alloc (.cells #[.int .u8 (lowB c).toNat] 5)).free 3
    refine reg_make 6 (v := .string (ofL (p ++ [lowB c]))) (w1 := Wd.alloc (.cells #[.int .u8 (lowB c).toNat] 5)) (by kernel_rfl) rfl (by rfl) (by rw [← ofL_snoc]; go_simp; omega) hS1 ?_
    simp only [List.getElem_toArray, List.getElem_cons_zero, List.getElem_cons_succ, Act.put, List.setIfInBounds_toArray, List.set_cons_zero, List.set_cons_succ]
    refine reg_make 7 (v := .pointer (some ⟨b2, 3, none⟩)) (w1 := Wd.alloc (.cells #[.int .u8 (lowB c).toNat] 5)) (by kernel_rfl) rfl (by rfl) (by go_simp) hS1 ?_
    simp only [List.getElem_toArray, List.getElem_cons_zero, List.getElem_cons_succ, Act.put, List.setIfInBounds_toArray, List.set_cons_zero, List.set_cons_succ]
    refine reg_store 8 (w1 := (Wd.alloc (.cells #[.int .u8 (lowB c).toNat] 5)).setCell ⟨b2, 3, none⟩ (.string (ofL (p ++ [lowB c])))) (by kernel_rfl) rfl (by rfl) (by go_simp) hS2 ?_
    simp only [List.getElem_toArray, List.getElem_cons_zero, List.getElem_cons_succ, Act.put, List.setIfInBounds_toArray, List.set_cons_zero, List.set_cons_succ]
    refine region_end (by kernel_rfl) ?_
    have HX := Lib.hid hX
    have HR := Lib.hid ((HRd.out.alloc (.cells #[.int .u8 (lowB c).toNat] 5)).far (p := ⟨b2, 3, none⟩) hne2 (.string (ofL (p ++ [lowB c]))))
    have HB := Lib.hid (bel_set (HBd.out.trans (Bel.alloc Wd (.cells #[.int .u8 (lowB c).toNat] 5))) HNE.out.1 3 (.string (ofL (p ++ [lowB c]))))
    generalize (Wd.alloc (.cells #[.int .u8 (lowB c).toNat] 5)).setCell ⟨b2, 3, none⟩ (.string (ofL (p ++ [lowB c]))) = Wg at HX HR HB ⊢
    clear hX hS2 hfz hS0 hS1 q3 q3' ho HXd HRd HBd
    obtain ⟨x0, x1, x2, x3⟩ := cells4 HX.out
    obtain ⟨r0, r1, r2, r3⟩ := cells4 HR.out
    obtain ⟨v0, v1, v2, v3⟩ := frees4 HR.out
    go_wp2_with fail
    all_goals first
      | ((with_reducible apply st_set (k := 4) (g := b4)); (case hf => rfl); (case hp => rfl); (case hB => exact HR.out); (case hb => exact HB.out); (case hg => exact HNE.out.2); clear x0 x1 x2 x3 r0 r1 r2 r3 v0 v1 v2 v3 HX HR HB HNE HL; unfold rawY; simp only [*, if_true, if_false, Bool.false_eq_true]; first | done | rfl)
      | trace_state
theorem rawS_w {s : HS} {c : UInt8} {C : Nat} {E : List UInt8} (hC : codeC s.c = C) (hE : endL s.c = E) :
    (rawS s c).val = if s.p.head? = some 60 ∧ E[s.p.length]? = some (lowB c) then (if ((ofL (s.p ++ [lowB c])).toList == E) = true then stV 15 ⟨#[]⟩ ⟨#[]⟩ ⟨#[]⟩ else stV s.c (ofL s.n) (ofL s.a) (ofL (s.p ++ [lowB c]))) else rawV s.c C (C + 1) (C + 2) s.n s.a s.p c := by
  have hc : ∀ k : UInt8, ((c.toNat : Int) == (k.toNat : Int)) = true ↔ c = k := fun k => by rw [u8_iff, beq_iff_eq]
  have h60 : ((c.toNat : Int) == 60) = true ↔ c = 60 := hc 60
  have h34 : ((c.toNat : Int) == 34) = true ↔ c = 34 := hc 34
  have h39 : ((c.toNat : Int) == 39) = true ↔ c = 39 := hc 39
  have h10 : ((c.toNat : Int) == 10) = true ↔ c = 10 := hc 10
  have h92 : ((c.toNat : Int) == 92) = true ↔ c = 92 := hc 92
  have k0 : ((s.c : Int) == (C : Int)) = true ↔ s.c = C := by rw [beq_iff_eq]; omega
  have k2 : ((s.c : Int) == (C : Int) + 2) = true ↔ s.c = C + 2 := by rw [beq_iff_eq]; omega
  have hp : ((ofL s.p).toList == [92]) = true ↔ s.p = [92] := by rw [ofL_list, beq_iff_eq]
  have hpe : ((ofL (s.p ++ [lowB c])).toList == E) = true ↔ s.p ++ [lowB c] = E := by rw [ofL_list, beq_iff_eq]
  unfold rawV rawS
  rw [hC, hE]
  simp only [h60, h34, h39, h10, h92, k0, k2, hp, hpe]
  split
  · split <;> rfl
  split
  · rfl
  split
  · rfl
  split
  · rename_i hk
    split
    · rfl
    · split
      · rfl
      · rfl
  · by_cases e2 : s.c = C + 2
    · rw [if_pos e2, if_pos e2]
      by_cases hq : c = 39 ∨ c = 10
      · rw [if_pos hq, if_pos hq]; split <;> rfl
      · rw [if_neg hq, if_neg hq]; split <;> rfl
    · rw [if_neg e2, if_neg e2]
      by_cases hq : c = 34 ∨ c = 10
      · rw [if_pos hq, if_pos hq]; split <;> rfl
      · rw [if_neg hq, if_neg hq]; split <;> rfl
theorem rraw_c (s : HS) (c : UInt8) (w : World) (hp : s.p.length ≤ 100000) :
    Calls Try.prog 37 #[s.val, .int .u8 c.toNat] w (SvP (rawS s c) w) := by
  show Calls _ _ _ _ (SvV (rawS s c).val w)
  by_cases hk : s.c < 19
  · have e1 : codeC s.c = 16 := by unfold codeC; rw [if_neg (by omega)]
    have e2 : endL s.c = [60, 47, 115, 99, 114, 105, 112, 116] := by unfold endL; rw [if_neg (by omega)]; rfl
    rw [rawS_w e1 e2]
    by_cases h : s.p.head? = some 60 ∧ ([60, 47, 115, 99, 114, 105, 112, 116] : List UInt8)[s.p.length]? = some (lowB c)
    · rw [if_pos h]
      exact rraw_yes16 _ _ _ _ c w (by omega) hp (by rw [← h.1]; cases s.p <;> rfl) h.2
    · rw [if_neg h]
      exact rraw_no16 _ _ _ _ c w (by omega) hp h
  · have e1 : codeC s.c = 19 := by unfold codeC; rw [if_pos (by omega)]
    have e2 : endL s.c = [60, 47, 115, 116, 121, 108, 101] := by unfold endL; rw [if_pos (by omega)]; rfl
    rw [rawS_w e1 e2]
    by_cases h : s.p.head? = some 60 ∧ ([60, 47, 115, 116, 121, 108, 101] : List UInt8)[s.p.length]? = some (lowB c)
    · rw [if_pos h]
      exact rraw_yes19 _ _ _ _ c w (by omega) hp (by rw [← h.1]; cases s.p <;> rfl) h.2
    · rw [if_neg h]
      exact rraw_no19 _ _ _ _ c w (by omega) hp h
end Go.Proofs.Yteclclidibmajaa

namespace Go.Proofs.Yteclclidibmajaa
open Go.RowKit Go.BigFrame
set_option linter.unusedVariables false
set_option linter.unusedSimpArgs false
set_option maxRecDepth 100000

set_option maxRecDepth 100000 in
set_option maxHeartbeats 3200000 in
theorem rstep_text (k : Int) (N A' P : ByteArray) (t : HS) (c : UInt8) (w : World) (q0 : (k == 0) = true)
    (hc : ∀ W, Calls Try.prog 34 #[.agg #[.int .i64 k, .string N, .string A', .string P], .int .u8 c.toNat] W (SvV (.agg #[.int .i64 (t.c : Nat), .string (ofL t.n), .string (ofL t.a), .string (ofL t.p)]) W)) :
    Calls Try.prog 22 #[stV k N A' P, .int .u8 c.toNat] w (SvV t.val w) := by
  unfold stV
  have HC := Lib.hid hc
  clear hc
  have HB2 := Lib.hid ((Bel.alloc w (.cells #[.int .i64 k, .string N, .string A', .string P] 38)).trans (Bel.alloc (w.alloc (.cells #[.int .i64 k, .string N, .string A', .string P] 38)) (.cells #[.int .i64 0, .string ⟨#[]⟩, .string ⟨#[]⟩, .string ⟨#[]⟩] 38)))
  have HR2 := Lib.hid (blk_at1h w (.cells #[.int .i64 k, .string N, .string A', .string P] 38) 38 [.int .i64 0, .string ⟨#[]⟩, .string ⟨#[]⟩, .string ⟨#[]⟩])
  go_enter Try.func22, Try.ntmps22
  go_wp2_with (go_at_call 34; ((with_reducible refine (HC.out _).mono ?_); rintro e w2 ⟨rfl, hb⟩; have HB := Lib.hid (HB2.out.trans hb); have HR := Lib.hid (HR2.out.belh hb); clear hb; obtain ⟨r0, r1, r2, r3⟩ := cells4 HR.out; obtain ⟨v0, v1, v2, v3⟩ := frees4 HR.out))
  all_goals first
    | ((with_reducible apply st_set (k := 4) (g := w.heap.size + 1)); (case hf => rfl); (case hp => rfl); (case hB => exact HR.out); (case hb => exact HB.out); (case hg => omega); rfl)
    | (exfalso; omega)
    | trace_state
set_option maxRecDepth 100000 in
set_option maxHeartbeats 3200000 in
theorem rstep_tag (k : Int) (N A' P : ByteArray) (t : HS) (c : UInt8) (w : World) (q0 : (k == 0) = false) (q1 : k ≤ 12)
    (hc : ∀ W, Calls Try.prog 35 #[.agg #[.int .i64 k, .string N, .string A', .string P], .int .u8 c.toNat] W (SvV (.agg #[.int .i64 (t.c : Nat), .string (ofL t.n), .string (ofL t.a), .string (ofL t.p)]) W)) :
    Calls Try.prog 22 #[stV k N A' P, .int .u8 c.toNat] w (SvV t.val w) := by
  unfold stV
  have HC := Lib.hid hc
  clear hc
  have HB2 := Lib.hid ((Bel.alloc w (.cells #[.int .i64 k, .string N, .string A', .string P] 38)).trans (Bel.alloc (w.alloc (.cells #[.int .i64 k, .string N, .string A', .string P] 38)) (.cells #[.int .i64 0, .string ⟨#[]⟩, .string ⟨#[]⟩, .string ⟨#[]⟩] 38)))
  have HR2 := Lib.hid (blk_at1h w (.cells #[.int .i64 k, .string N, .string A', .string P] 38) 38 [.int .i64 0, .string ⟨#[]⟩, .string ⟨#[]⟩, .string ⟨#[]⟩])
  go_enter Try.func22, Try.ntmps22
  go_wp2_with (go_at_call 35; ((with_reducible refine (HC.out _).mono ?_); rintro e w2 ⟨rfl, hb⟩; have HB := Lib.hid (HB2.out.trans hb); have HR := Lib.hid (HR2.out.belh hb); clear hb; obtain ⟨r0, r1, r2, r3⟩ := cells4 HR.out; obtain ⟨v0, v1, v2, v3⟩ := frees4 HR.out))
  all_goals first
    | ((with_reducible apply st_set (k := 4) (g := w.heap.size + 1)); (case hf => rfl); (case hp => rfl); (case hB => exact HR.out); (case hb => exact HB.out); (case hg => omega); rfl)
    | (exfalso; omega)
    | trace_state
set_option maxRecDepth 100000 in
set_option maxHeartbeats 3200000 in
theorem rstep_com (k : Int) (N A' P : ByteArray) (t : HS) (c : UInt8) (w : World) (q0 : (k == 0) = false) (q1 : ¬ k ≤ 12) (q2 : (k == 13) = true)
    (hc : ∀ W, Calls Try.prog 36 #[.agg #[.int .i64 k, .string N, .string A', .string P], .int .u8 c.toNat] W (SvV (.agg #[.int .i64 (t.c : Nat), .string (ofL t.n), .string (ofL t.a), .string (ofL t.p)]) W)) :
    Calls Try.prog 22 #[stV k N A' P, .int .u8 c.toNat] w (SvV t.val w) := by
  unfold stV
  have HC := Lib.hid hc
  clear hc
  have HB2 := Lib.hid ((Bel.alloc w (.cells #[.int .i64 k, .string N, .string A', .string P] 38)).trans (Bel.alloc (w.alloc (.cells #[.int .i64 k, .string N, .string A', .string P] 38)) (.cells #[.int .i64 0, .string ⟨#[]⟩, .string ⟨#[]⟩, .string ⟨#[]⟩] 38)))
  have HR2 := Lib.hid (blk_at1h w (.cells #[.int .i64 k, .string N, .string A', .string P] 38) 38 [.int .i64 0, .string ⟨#[]⟩, .string ⟨#[]⟩, .string ⟨#[]⟩])
  go_enter Try.func22, Try.ntmps22
  go_wp2_with (go_at_call 36; ((with_reducible refine (HC.out _).mono ?_); rintro e w2 ⟨rfl, hb⟩; have HB := Lib.hid (HB2.out.trans hb); have HR := Lib.hid (HR2.out.belh hb); clear hb; obtain ⟨r0, r1, r2, r3⟩ := cells4 HR.out; obtain ⟨v0, v1, v2, v3⟩ := frees4 HR.out))
  all_goals first
    | ((with_reducible apply st_set (k := 4) (g := w.heap.size + 1)); (case hf => rfl); (case hp => rfl); (case hB => exact HR.out); (case hb => exact HB.out); (case hg => omega); rfl)
    | (exfalso; omega)
    | trace_state
set_option maxRecDepth 100000 in
set_option maxHeartbeats 3200000 in
theorem rstep_raw (k : Int) (N A' P : ByteArray) (t : HS) (c : UInt8) (w : World) (q0 : (k == 0) = false) (q1 : ¬ k ≤ 12) (q2 : (k == 13) = false) (q3 : ¬ k ≤ 15)
    (hc : ∀ W, Calls Try.prog 37 #[.agg #[.int .i64 k, .string N, .string A', .string P], .int .u8 c.toNat] W (SvV (.agg #[.int .i64 (t.c : Nat), .string (ofL t.n), .string (ofL t.a), .string (ofL t.p)]) W)) :
    Calls Try.prog 22 #[stV k N A' P, .int .u8 c.toNat] w (SvV t.val w) := by
  unfold stV
  have HC := Lib.hid hc
  clear hc
  have HB2 := Lib.hid ((Bel.alloc w (.cells #[.int .i64 k, .string N, .string A', .string P] 38)).trans (Bel.alloc (w.alloc (.cells #[.int .i64 k, .string N, .string A', .string P] 38)) (.cells #[.int .i64 0, .string ⟨#[]⟩, .string ⟨#[]⟩, .string ⟨#[]⟩] 38)))
  have HR2 := Lib.hid (blk_at1h w (.cells #[.int .i64 k, .string N, .string A', .string P] 38) 38 [.int .i64 0, .string ⟨#[]⟩, .string ⟨#[]⟩, .string ⟨#[]⟩])
  go_enter Try.func22, Try.ntmps22
  go_wp2_with (go_at_call 37; ((with_reducible refine (HC.out _).mono ?_); rintro e w2 ⟨rfl, hb⟩; have HB := Lib.hid (HB2.out.trans hb); have HR := Lib.hid (HR2.out.belh hb); clear hb; obtain ⟨r0, r1, r2, r3⟩ := cells4 HR.out; obtain ⟨v0, v1, v2, v3⟩ := frees4 HR.out))
  all_goals first
    | ((with_reducible apply st_set (k := 4) (g := w.heap.size + 1)); (case hf => rfl); (case hp => rfl); (case hB => exact HR.out); (case hb => exact HB.out); (case hg => omega); rfl)
    | (exfalso; omega)
    | trace_state
set_option maxRecDepth 100000 in
set_option maxHeartbeats 3200000 in
theorem rstep_end (k : Int) (N A' P : ByteArray) (c : UInt8) (w : World) (q0 : (k == 0) = false) (q1 : ¬ k ≤ 12) (q2 : (k == 13) = false) (q3 : k ≤ 15) :
    Calls Try.prog 22 #[stV k N A' P, .int .u8 c.toNat] w (SvV (if ((c.toNat : Int) == 62) = true then stV 0 ⟨#[]⟩ ⟨#[]⟩ ⟨#[]⟩ else stV k N A' P) w) := by
  unfold stV
  go_enter Try.func22, Try.ntmps22
  go_wp2_with fail
  all_goals first
    | ((with_reducible apply st_new (k := 4) (g := w.heap.size + 1)); (case hf => rfl); (case hp => rfl); (case hg => simp); (case hb => exact (Bel.alloc _ _).trans (Bel.alloc _ _)); simp only [*, if_true, if_false, Bool.false_eq_true])
    | trace_state
/-- A step of the reference. -/
theorem rstep_c (s : HS) (c : UInt8) (w : World) (hn : s.n.length ≤ 100000) (ha : s.a.length ≤ 100000) (hp : s.p.length ≤ 100000) :
    Calls Try.prog 22 #[s.val, .int .u8 c.toNat] w (SvP (stepS s c) w) := by
  have hk : ∀ j : Nat, ((s.c : Int) == (j : Int)) = decide (s.c = j) := fun j => by rw [Bool.eq_iff_iff, beq_iff_eq, decide_eq_true_iff]; omega
  have k0 : ((s.c : Int) == 0) = decide (s.c = 0) := hk 0
  have k13 : ((s.c : Int) == 13) = decide (s.c = 13) := hk 13
  unfold stepS
  by_cases h0 : s.c = 0
  · rw [if_pos h0]
    exact rstep_text _ _ _ _ _ c w (by rw [k0, decide_eq_true h0]) fun W => rtext_c _ _ _ s.p c W
  rw [if_neg h0]
  by_cases h12 : s.c ≤ 12
  · rw [if_pos h12]
    exact rstep_tag _ _ _ _ _ c w (by rw [k0, decide_eq_false h0]) (by omega) fun W => rtag_c s c W hn ha
  rw [if_neg h12]
  by_cases h13 : s.c = 13
  · rw [if_pos h13]
    exact rstep_com _ _ _ _ _ c w (by rw [k0, decide_eq_false h0]) (by omega) (by rw [k13, decide_eq_true h13]) fun W => rcomment_c _ _ _ s.p c W
  rw [if_neg h13]
  by_cases h15 : s.c ≤ 15
  · rw [if_pos h15]
    have := rstep_end s.c (ofL s.n) (ofL s.a) (ofL s.p) c w (by rw [k0, decide_eq_false h0]) (by omega) (by rw [k13, decide_eq_false h13]) (by omega)
    have h62 : ((c.toNat : Int) == 62) = true ↔ c = 62 := by rw [u8_iff, beq_iff_eq]; rfl
    simp only [h62] at this
    by_cases hc : c = 62
    · rw [if_pos hc] at this ⊢; exact this
    · rw [if_neg hc] at this ⊢; exact this
  rw [if_neg h15]
  exact rstep_raw _ _ _ _ _ c w (by rw [k0, decide_eq_false h0]) (by omega) (by rw [k13, decide_eq_false h13]) (by omega) fun W => rraw_c s c W hp
end Go.Proofs.Yteclclidibmajaa
