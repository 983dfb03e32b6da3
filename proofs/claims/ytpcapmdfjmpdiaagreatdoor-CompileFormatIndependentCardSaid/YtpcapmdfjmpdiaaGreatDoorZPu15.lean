/-
  Contracts: the program of layer 15: tags.
-/
import Derived.Test.YtpcapmdfjmpdiaaGreatDoorZPt15
namespace Go.Proofs.YtpcapmdfjmpdiaaGreatDoor
open Go.RowKit Go.BigFrame
set_option linter.unusedVariables false
set_option linter.unusedSimpArgs false
set_option maxRecDepth 100000

theorem bel_setp {w w1 : World} {b : Nat} (h : Bel w w1) (hb : w.heap.size ≤ b) (i : Nat) (v : Value) : Bel w (w1.setCell ⟨b, i, none⟩ v) := bel_on1 h ((Only.refl [b] _).setCell (.inl (by simp)) _) hb
theorem urlA_raw {a : List UInt8} (h : urlA a = true) : rawA a = false := by
  unfold urlA at h
  simp only [Bool.or_eq_true, decide_eq_true_eq] at h
  rcases h with rfl | rfl | rfl | rfl <;> rfl
theorem quot_dq (a : List UInt8) : (if urlA a = true then (9 : Int) else if rawA a = true then 11 else 7) = (quotedC a 34 : Nat) := by
  unfold quotedC
  by_cases h : urlA a = true
  · rw [if_pos h, if_neg (by simp [urlA_raw h]), if_pos h]; rfl
  · rw [if_neg h, if_neg h]; split <;> rfl
theorem quot_sq (a : List UInt8) : (if urlA a = true then (10 : Int) else if rawA a = true then 12 else 8) = (quotedC a 39 : Nat) := by
  unfold quotedC
  by_cases h : urlA a = true
  · rw [if_pos h, if_neg (by simp [urlA_raw h]), if_pos h]; rfl
  · rw [if_neg h, if_neg h]; split <;> rfl
def nmV (k : Int) (n a p : List UInt8) (c : UInt8) : Value := if spcB c = true ∨ ((c.toNat : Int) == 47) = true then stV 1 (ofL n) ⟨#[]⟩ ⟨#[]⟩ else stV k (ofL (addL n c)) (ofL a) (ofL p)
def btV (k : Int) (n a p : List UInt8) (c : UInt8) : Value := if spcB c = true ∨ ((c.toNat : Int) == 47) = true then stV k (ofL n) (ofL a) (ofL p) else stV 3 (ofL n) (ofL (addL [] c)) ⟨#[]⟩
def atV (n a : List UInt8) (c : UInt8) : Value := if spcB c = true then stV 4 (ofL n) (ofL a) ⟨#[]⟩ else if ((c.toNat : Int) == 47) = true then stV 1 (ofL n) ⟨#[]⟩ ⟨#[]⟩ else if ((c.toNat : Int) == 61) = true then stV 5 (ofL n) (ofL a) ⟨#[]⟩ else stV 3 (ofL n) (ofL (addL a c)) ⟨#[]⟩
def afV (k : Int) (n a p : List UInt8) (c : UInt8) : Value := if spcB c = true then stV k (ofL n) (ofL a) (ofL p) else if ((c.toNat : Int) == 47) = true then stV 1 (ofL n) ⟨#[]⟩ ⟨#[]⟩ else if ((c.toNat : Int) == 61) = true then stV 5 (ofL n) (ofL a) ⟨#[]⟩ else stV 3 (ofL n) (ofL (addL [] c)) ⟨#[]⟩
def bvV (k : Int) (n a p : List UInt8) (c : UInt8) : Value := if spcB c = true then stV k (ofL n) (ofL a) (ofL p) else if ((c.toNat : Int) == 34) = true then stV (quotedC a 34 : Nat) (ofL n) ⟨#[]⟩ ⟨#[]⟩ else if ((c.toNat : Int) == 39) = true then stV (quotedC a 39 : Nat) (ofL n) ⟨#[]⟩ ⟨#[]⟩ else stV 6 (ofL n) ⟨#[]⟩ ⟨#[]⟩
def uqV (k : Int) (n a p : List UInt8) (c : UInt8) : Value := if spcB c = true then stV 1 (ofL n) ⟨#[]⟩ ⟨#[]⟩ else stV k (ofL n) (ofL a) (ofL p)
set_option maxRecDepth 100000 in
set_option maxHeartbeats 3200000 in
theorem pname_c (k : Int) (n a p : List UInt8) (c : UInt8) (w : World) (hn : n.length ≤ 100000) : Calls Tryz.prog 133 #[stV k (ofL n) (ofL a) (ofL p), .int .u8 c.toNat] w (SvV (nmV k n a p c) w) := by
  unfold stV
  have HB2 := Lib.hid ((Bel.alloc w (.cells #[.int .i64 k, .string (ofL n), .string (ofL a), .string (ofL p)] 74)).trans (Bel.alloc (w.alloc (.cells #[.int .i64 k, .string (ofL n), .string (ofL a), .string (ofL p)] 74)) (.cells #[.int .i64 0, .string ⟨#[]⟩, .string ⟨#[]⟩, .string ⟨#[]⟩] 74)))
  have HR2 := Lib.hid (blk_at1h w (.cells #[.int .i64 k, .string (ofL n), .string (ofL a), .string (ofL p)] 74) 74 [.int .i64 0, .string ⟨#[]⟩, .string ⟨#[]⟩, .string ⟨#[]⟩])
  have HX2 := Lib.hid ((Blk.new w 74 [.int .i64 k, .string (ofL n), .string (ofL a), .string (ofL p)]).alloc (.cells #[.int .i64 0, .string ⟨#[]⟩, .string ⟨#[]⟩, .string ⟨#[]⟩] 74))
  have HSP := Lib.hid (fun W => pspace_c c W)
  have HTG : Hid (∀ W, Calls Tryz.prog 121 #[.agg #[.int .i64 k, .string (ofL n), .string (ofL a), .string (ofL p)]] W (SvV (.agg #[.int .i64 1, .string (ofL n), .string ⟨#[]⟩, .string ⟨#[]⟩]) W)) := Lib.hid (fun W => ptag_c k (ofL n) (ofL a) (ofL p) W)
  have HAN := Lib.hid (fun W => padd_c n c W hn)
  have hne : ¬ w.heap.size + 1 = w.heap.size := by omega
  go_enter Tryz.func133, Tryz.ntmps133
  go_wp2_with (first
    | (go_at_call 150; ((with_reducible refine (HSP.out _).mono ?_); rintro e w1 ⟨rfl, rfl⟩))
    | (go_at_call 121; ((with_reducible refine (HTG.out _).mono ?_); rintro e w2 ⟨rfl, hb⟩; have HB := Lib.hid (HB2.out.trans hb); have HR := Lib.hid (HR2.out.belh hb); clear hb; obtain ⟨r0, r1, r2, r3⟩ := cells4 HR.out; obtain ⟨v0, v1, v2, v3⟩ := frees4 HR.out))
    | (go_at_call 149; ((with_reducible refine (HAN.out _).mono ?_); rintro e w2 ⟨rfl, hb⟩; have HB := Lib.hid (HB2.out.trans hb); have HR := Lib.hid (HR2.out.belh hb); have HX := Lib.hid (HX2.out.belh hb); clear hb; obtain ⟨r0, r1, r2, r3⟩ := cells4 HR.out; obtain ⟨v0, v1, v2, v3⟩ := frees4 HR.out; obtain ⟨x0, x1, x2, x3⟩ := cells4 HX.out; obtain ⟨u0, u1, u2, u3⟩ := frees4 HX.out)))
  all_goals first
    | ((with_reducible apply pst_new (k := 4) (g := w.heap.size + 1)); (case hf => rfl); (case hp => rfl); (case hg => simp); (case hb => exact (Bel.alloc _ _).trans (Bel.alloc _ _)))
    | ((with_reducible apply pst_set (k := 4) (g := w.heap.size + 1)); (case hf => rfl); (case hp => rfl); (case hB => exact HR.out); (case hb => exact HB.out); (case hg => omega))
    | ((with_reducible apply pst_set (k := 4) (g := w.heap.size + 1)); (case hf => rfl); (case hp => rfl); (case hB => with_reducible exact HR.out.far hne _); (case hb => with_reducible exact bel_setp HB.out (Nat.le_refl _) _ _); (case hg => omega))
  all_goals unfold nmV
  all_goals first
    | (simp only [*, if_true, if_false, Bool.false_eq_true, or_true, true_or, or_self]; first | done | rfl)
    | trace_state
set_option maxRecDepth 100000 in
set_option maxHeartbeats 3200000 in
theorem punq_c (k : Int) (n a p : List UInt8) (c : UInt8) (w : World) : Calls Tryz.prog 137 #[stV k (ofL n) (ofL a) (ofL p), .int .u8 c.toNat] w (SvV (uqV k n a p c) w) := by
  unfold stV
  have HB2 := Lib.hid ((Bel.alloc w (.cells #[.int .i64 k, .string (ofL n), .string (ofL a), .string (ofL p)] 74)).trans (Bel.alloc (w.alloc (.cells #[.int .i64 k, .string (ofL n), .string (ofL a), .string (ofL p)] 74)) (.cells #[.int .i64 0, .string ⟨#[]⟩, .string ⟨#[]⟩, .string ⟨#[]⟩] 74)))
  have HR2 := Lib.hid (blk_at1h w (.cells #[.int .i64 k, .string (ofL n), .string (ofL a), .string (ofL p)] 74) 74 [.int .i64 0, .string ⟨#[]⟩, .string ⟨#[]⟩, .string ⟨#[]⟩])
  have HSP := Lib.hid (fun W => pspace_c c W)
  have HTG : Hid (∀ W, Calls Tryz.prog 121 #[.agg #[.int .i64 k, .string (ofL n), .string (ofL a), .string (ofL p)]] W (SvV (.agg #[.int .i64 1, .string (ofL n), .string ⟨#[]⟩, .string ⟨#[]⟩]) W)) := Lib.hid (fun W => ptag_c k (ofL n) (ofL a) (ofL p) W)
  go_enter Tryz.func137, Tryz.ntmps137
  go_wp2_with (first
    | (go_at_call 150; ((with_reducible refine (HSP.out _).mono ?_); rintro e w1 ⟨rfl, rfl⟩))
    | (go_at_call 121; ((with_reducible refine (HTG.out _).mono ?_); rintro e w2 ⟨rfl, hb⟩; have HB := Lib.hid (HB2.out.trans hb); have HR := Lib.hid (HR2.out.belh hb); clear hb; obtain ⟨r0, r1, r2, r3⟩ := cells4 HR.out; obtain ⟨v0, v1, v2, v3⟩ := frees4 HR.out)))
  all_goals first
    | ((with_reducible apply pst_new (k := 4) (g := w.heap.size + 1)); (case hf => rfl); (case hp => rfl); (case hg => simp); (case hb => exact (Bel.alloc _ _).trans (Bel.alloc _ _)))
    | ((with_reducible apply pst_set (k := 4) (g := w.heap.size + 1)); (case hf => rfl); (case hp => rfl); (case hB => exact HR.out); (case hb => exact HB.out); (case hg => omega))
  all_goals unfold uqV
  all_goals first
    | (simp only [*, if_true, if_false, Bool.false_eq_true, or_true, true_or, or_self]; first | done | rfl)
    | trace_state
set_option maxRecDepth 100000 in
set_option maxHeartbeats 3200000 in
theorem pbetween_c (k : Int) (n a p : List UInt8) (c : UInt8) (w : World) : Calls Tryz.prog 138 #[stV k (ofL n) (ofL a) (ofL p), .int .u8 c.toNat] w (SvV (btV k n a p c) w) := by
  unfold stV
  have HB2 := Lib.hid ((Bel.alloc w (.cells #[.int .i64 k, .string (ofL n), .string (ofL a), .string (ofL p)] 74)).trans (Bel.alloc (w.alloc (.cells #[.int .i64 k, .string (ofL n), .string (ofL a), .string (ofL p)] 74)) (.cells #[.int .i64 0, .string ⟨#[]⟩, .string ⟨#[]⟩, .string ⟨#[]⟩] 74)))
  have HR2 := Lib.hid (blk_at1h w (.cells #[.int .i64 k, .string (ofL n), .string (ofL a), .string (ofL p)] 74) 74 [.int .i64 0, .string ⟨#[]⟩, .string ⟨#[]⟩, .string ⟨#[]⟩])
  have HX2 := Lib.hid ((Blk.new w 74 [.int .i64 k, .string (ofL n), .string (ofL a), .string (ofL p)]).alloc (.cells #[.int .i64 0, .string ⟨#[]⟩, .string ⟨#[]⟩, .string ⟨#[]⟩] 74))
  have HSP := Lib.hid (fun W => pspace_c c W)
  have HA0 := Lib.hid (fun W => padd_c [] c W (by simp))
  rw [ofL_nil] at HA0
  have HAT : Hid (∀ W, Calls Tryz.prog 151 #[.agg #[.int .i64 k, .string (ofL n), .string (ofL a), .string (ofL p)], .int .i64 3, .string (ofL (addL [] c))] W (SvV (.agg #[.int .i64 3, .string (ofL n), .string (ofL (addL [] c)), .string ⟨#[]⟩]) W)) := Lib.hid (fun W => pattr_c k 3 (ofL n) (ofL a) (ofL p) (ofL (addL [] c)) W)
  go_enter Tryz.func138, Tryz.ntmps138
  go_wp2_with (go_at_call 150; ((with_reducible refine (HSP.out _).mono ?_); rintro e w1 ⟨rfl, rfl⟩))
  all_goals first
    | (((with_reducible apply pst_new (k := 4) (g := w.heap.size + 1)); (case hf => rfl); (case hp => rfl); (case hg => simp); (case hb => exact (Bel.alloc _ _).trans (Bel.alloc _ _))); unfold btV; simp only [*, if_true, if_false, Bool.false_eq_true, or_true, true_or, or_self])
    | skip
  all_goals
    first
    | done
    | (
      refine region_begin (T := [w.heap.size + 1]) (by kernel_rfl) ?_
      have HBd := Lib.hid (HB2.out.trans (Bel.drew _))
      have HRd := Lib.hid HR2.out.drew
      have HXd := Lib.hid HX2.out.drew
      generalize ((w.alloc (.cells #[.int .i64 k, .string (ofL n), .string (ofL a), .string (ofL p)] 74)).alloc (.cells #[.int .i64 0, .string ⟨#[]⟩, .string ⟨#[]⟩, .string ⟨#[]⟩] 74)).drew = Wd at HBd HRd HXd ⊢
      have p0 : ∀ X : Later [w.heap.size + 1] Wd, X.w.cell? ⟨w.heap.size, 0, none⟩ = some (.int .i64 k) := fun X => (HXd.out.only X.h (by simp)).cell 0
      have p1 : ∀ X : Later [w.heap.size + 1] Wd, X.w.cell? ⟨w.heap.size, 1, none⟩ = some (.string (ofL n)) := fun X => (HXd.out.only X.h (by simp)).cell 1
      have p2 : ∀ X : Later [w.heap.size + 1] Wd, X.w.cell? ⟨w.heap.size, 2, none⟩ = some (.string (ofL a)) := fun X => (HXd.out.only X.h (by simp)).cell 2
      have p3 : ∀ X : Later [w.heap.size + 1] Wd, X.w.cell? ⟨w.heap.size, 3, none⟩ = some (.string (ofL p)) := fun X => (HXd.out.only X.h (by simp)).cell 3
      refine region_seg [true, true] 3 (by kernel_rfl) (by kernel_rfl) (by kernel_rfl) rfl (fun _ _ d _ _ h => by cases d <;> exact h) ?_
      repeat (first | with_reducible refine wpMask_pass ?_ | (refine wpMask_want (by rfl) (fun K hK => ?_); go_big_quiet_op; refine hK _ ?_; clear hK K))
      with_reducible refine wpMask_nil ?_
      clear p0 p1 p2 p3
      refine region_call 2 (by kernel_rfl) rfl (by rfl) (by go_simp; exact ⟨rfl, rfl⟩) ?_
      (with_reducible refine (HA0.out _).mono ?_); rintro e w2 ⟨rfl, hb⟩; refine ⟨_, rfl, (Only.refl [w.heap.size + 1] _).join (bel_only hb) (by simp), ?_⟩
      replace HBd := Lib.hid (HBd.out.trans hb)
      replace HRd := Lib.hid (HRd.out.belh hb)
      clear hb
      simp only [List.getElem_toArray, List.getElem_cons_zero, List.getElem_cons_succ, Act.put, List.setIfInBounds_toArray, List.set_cons_zero, List.set_cons_succ]
      refine region_call 3 (by kernel_rfl) rfl (by rfl) (by go_simp; exact ⟨rfl, rfl⟩) ?_
      (with_reducible refine (HAT.out _).mono ?_); rintro e w3 ⟨rfl, hb⟩; refine ⟨_, rfl, (Only.refl [w.heap.size + 1] _).join (bel_only hb) (by simp), ?_⟩
      replace HBd := Lib.hid (HBd.out.trans hb)
      replace HRd := Lib.hid (HRd.out.belh hb)
      clear hb
      simp only [List.getElem_toArray, List.getElem_cons_zero, List.getElem_cons_succ, Act.put, List.setIfInBounds_toArray, List.set_cons_zero, List.set_cons_succ]
      obtain ⟨r0, r1, r2, r3⟩ := cells4 HRd.out
      obtain ⟨v0, v1, v2, v3⟩ := frees4 HRd.out
      refine region_store 4 (w1 := ((((w3.setCell ⟨w.heap.size + 1, 0, none⟩ (.int .i64 3)).setCell ⟨w.heap.size + 1, 1, none⟩ (.string (ofL n))).setCell ⟨w.heap.size + 1, 2, none⟩ (.string (ofL (addL [] c)))).setCell ⟨w.heap.size + 1, 3, none⟩ (.string ⟨#[]⟩))) (by kernel_rfl) rfl (by rfl) (by go_simp) (((((Only.refl [w.heap.size + 1] _).setCell (.inl (by simp)) _).setCell (.inl (by simp)) _).setCell (.inl (by simp)) _).setCell (.inl (by simp)) _) ?_
      simp only [List.getElem_toArray, List.getElem_cons_zero, List.getElem_cons_succ, Act.put, List.setIfInBounds_toArray, List.set_cons_zero, List.set_cons_succ]
      refine region_end (by kernel_rfl) ?_
      go_wp2_with fail
      (with_reducible apply pst_set (k := 4) (g := w.heap.size + 1))
      case hf => rfl
      case hp => rfl
      case hB => exact HRd.out
      case hb => exact HBd.out
      case hg => omega
      unfold btV
      simp only [*, if_true, if_false, Bool.false_eq_true, or_true, true_or, or_self, or_false, false_or]
      first | done | rfl)
set_option maxRecDepth 100000 in
set_option maxHeartbeats 3200000 in
theorem pattrname_c (k : Int) (n a p : List UInt8) (c : UInt8) (w : World) (ha : a.length ≤ 100000) : Calls Tryz.prog 134 #[stV k (ofL n) (ofL a) (ofL p), .int .u8 c.toNat] w (SvV (atV n a c) w) := by
  unfold stV
  have HB2 := Lib.hid ((Bel.alloc w (.cells #[.int .i64 k, .string (ofL n), .string (ofL a), .string (ofL p)] 74)).trans (Bel.alloc (w.alloc (.cells #[.int .i64 k, .string (ofL n), .string (ofL a), .string (ofL p)] 74)) (.cells #[.int .i64 0, .string ⟨#[]⟩, .string ⟨#[]⟩, .string ⟨#[]⟩] 74)))
  have HR2 := Lib.hid (blk_at1h w (.cells #[.int .i64 k, .string (ofL n), .string (ofL a), .string (ofL p)] 74) 74 [.int .i64 0, .string ⟨#[]⟩, .string ⟨#[]⟩, .string ⟨#[]⟩])
  have HX2 := Lib.hid ((Blk.new w 74 [.int .i64 k, .string (ofL n), .string (ofL a), .string (ofL p)]).alloc (.cells #[.int .i64 0, .string ⟨#[]⟩, .string ⟨#[]⟩, .string ⟨#[]⟩] 74))
  have HSP := Lib.hid (fun W => pspace_c c W)
  have HTG : Hid (∀ W, Calls Tryz.prog 121 #[.agg #[.int .i64 k, .string (ofL n), .string (ofL a), .string (ofL p)]] W (SvV (.agg #[.int .i64 1, .string (ofL n), .string ⟨#[]⟩, .string ⟨#[]⟩]) W)) := Lib.hid (fun W => ptag_c k (ofL n) (ofL a) (ofL p) W)
  have HA4 : Hid (∀ W, Calls Tryz.prog 151 #[.agg #[.int .i64 k, .string (ofL n), .string (ofL a), .string (ofL p)], .int .i64 4, .string (ofL a)] W (SvV (.agg #[.int .i64 4, .string (ofL n), .string (ofL a), .string ⟨#[]⟩]) W)) := Lib.hid (fun W => pattr_c k 4 (ofL n) (ofL a) (ofL p) (ofL a) W)
  have HA5 : Hid (∀ W, Calls Tryz.prog 151 #[.agg #[.int .i64 k, .string (ofL n), .string (ofL a), .string (ofL p)], .int .i64 5, .string (ofL a)] W (SvV (.agg #[.int .i64 5, .string (ofL n), .string (ofL a), .string ⟨#[]⟩]) W)) := Lib.hid (fun W => pattr_c k 5 (ofL n) (ofL a) (ofL p) (ofL a) W)
  have HA3 : Hid (∀ W, Calls Tryz.prog 151 #[.agg #[.int .i64 k, .string (ofL n), .string (ofL a), .string (ofL p)], .int .i64 3, .string (ofL (addL a c))] W (SvV (.agg #[.int .i64 3, .string (ofL n), .string (ofL (addL a c)), .string ⟨#[]⟩]) W)) := Lib.hid (fun W => pattr_c k 3 (ofL n) (ofL a) (ofL p) (ofL (addL a c)) W)
  have HAA := Lib.hid (fun W => padd_c a c W ha)
  go_enter Tryz.func134, Tryz.ntmps134
  go_wp2_with (first
    | (go_at_call 150; ((with_reducible refine (HSP.out _).mono ?_); rintro e w1 ⟨rfl, rfl⟩))
    | (go_at_call 121; ((with_reducible refine (HTG.out _).mono ?_); rintro e w2 ⟨rfl, hb⟩; have HB := Lib.hid (HB2.out.trans hb); have HR := Lib.hid (HR2.out.belh hb); clear hb; obtain ⟨r0, r1, r2, r3⟩ := cells4 HR.out; obtain ⟨v0, v1, v2, v3⟩ := frees4 HR.out))
    | (go_at_call 151; ((with_reducible refine (HA4.out _).mono ?_); rintro e w2 ⟨rfl, hb⟩; have HB := Lib.hid (HB2.out.trans hb); have HR := Lib.hid (HR2.out.belh hb); clear hb; obtain ⟨r0, r1, r2, r3⟩ := cells4 HR.out; obtain ⟨v0, v1, v2, v3⟩ := frees4 HR.out))
    | (go_at_call 151; ((with_reducible refine (HA5.out _).mono ?_); rintro e w2 ⟨rfl, hb⟩; have HB := Lib.hid (HB2.out.trans hb); have HR := Lib.hid (HR2.out.belh hb); clear hb; obtain ⟨r0, r1, r2, r3⟩ := cells4 HR.out; obtain ⟨v0, v1, v2, v3⟩ := frees4 HR.out)))
  all_goals first
    | (((with_reducible apply pst_set (k := 4) (g := w.heap.size + 1)); (case hf => rfl); (case hp => rfl); (case hB => exact HR.out); (case hb => exact HB.out); (case hg => omega)); unfold atV; simp only [*, if_true, if_false, Bool.false_eq_true, or_true, true_or, or_self]; done)
    | skip
  all_goals
    first
    | done
    | (
      refine region_begin (T := [w.heap.size + 1]) (by kernel_rfl) ?_
      have HBd := Lib.hid (HB2.out.trans (Bel.drew _))
      have HRd := Lib.hid HR2.out.drew
      have HXd := Lib.hid HX2.out.drew
      generalize ((w.alloc (.cells #[.int .i64 k, .string (ofL n), .string (ofL a), .string (ofL p)] 74)).alloc (.cells #[.int .i64 0, .string ⟨#[]⟩, .string ⟨#[]⟩, .string ⟨#[]⟩] 74)).drew = Wd at HBd HRd HXd ⊢
      have p0 : ∀ X : Later [w.heap.size + 1] Wd, X.w.cell? ⟨w.heap.size, 0, none⟩ = some (.int .i64 k) := fun X => (HXd.out.only X.h (by simp)).cell 0
      have p1 : ∀ X : Later [w.heap.size + 1] Wd, X.w.cell? ⟨w.heap.size, 1, none⟩ = some (.string (ofL n)) := fun X => (HXd.out.only X.h (by simp)).cell 1
      have p2 : ∀ X : Later [w.heap.size + 1] Wd, X.w.cell? ⟨w.heap.size, 2, none⟩ = some (.string (ofL a)) := fun X => (HXd.out.only X.h (by simp)).cell 2
      have p3 : ∀ X : Later [w.heap.size + 1] Wd, X.w.cell? ⟨w.heap.size, 3, none⟩ = some (.string (ofL p)) := fun X => (HXd.out.only X.h (by simp)).cell 3
      refine region_seg [true, true, true, true] 3 (by kernel_rfl) (by kernel_rfl) (by kernel_rfl) rfl (fun _ _ d _ _ h => by cases d <;> exact h) ?_
      repeat (first | with_reducible refine wpMask_pass ?_ | (refine wpMask_want (by rfl) (fun K hK => ?_); go_big_quiet_op; refine hK _ ?_; clear hK K))
      with_reducible refine wpMask_nil ?_
      clear p0 p1 p2 p3
      refine region_call 4 (by kernel_rfl) rfl (by rfl) (by go_simp; exact ⟨rfl, rfl⟩) ?_
      (with_reducible refine (HAA.out _).mono ?_); rintro e w2 ⟨rfl, hb⟩; refine ⟨_, rfl, (Only.refl [w.heap.size + 1] _).join (bel_only hb) (by simp), ?_⟩
      replace HBd := Lib.hid (HBd.out.trans hb)
      replace HRd := Lib.hid (HRd.out.belh hb)
      clear hb
      simp only [List.getElem_toArray, List.getElem_cons_zero, List.getElem_cons_succ, Act.put, List.setIfInBounds_toArray, List.set_cons_zero, List.set_cons_succ]
      refine region_call 5 (by kernel_rfl) rfl (by rfl) (by go_simp; exact ⟨rfl, rfl⟩) ?_
      (with_reducible refine (HA3.out _).mono ?_); rintro e w3 ⟨rfl, hb⟩; refine ⟨_, rfl, (Only.refl [w.heap.size + 1] _).join (bel_only hb) (by simp), ?_⟩
      replace HBd := Lib.hid (HBd.out.trans hb)
      replace HRd := Lib.hid (HRd.out.belh hb)
      clear hb
      simp only [List.getElem_toArray, List.getElem_cons_zero, List.getElem_cons_succ, Act.put, List.setIfInBounds_toArray, List.set_cons_zero, List.set_cons_succ]
      obtain ⟨r0, r1, r2, r3⟩ := cells4 HRd.out
      obtain ⟨v0, v1, v2, v3⟩ := frees4 HRd.out
      refine region_store 6 (w1 := ((((w3.setCell ⟨w.heap.size + 1, 0, none⟩ (.int .i64 3)).setCell ⟨w.heap.size + 1, 1, none⟩ (.string (ofL n))).setCell ⟨w.heap.size + 1, 2, none⟩ (.string (ofL (addL a c)))).setCell ⟨w.heap.size + 1, 3, none⟩ (.string ⟨#[]⟩))) (by kernel_rfl) rfl (by rfl) (by go_simp) (((((Only.refl [w.heap.size + 1] _).setCell (.inl (by simp)) _).setCell (.inl (by simp)) _).setCell (.inl (by simp)) _).setCell (.inl (by simp)) _) ?_
      simp only [List.getElem_toArray, List.getElem_cons_zero, List.getElem_cons_succ, Act.put, List.setIfInBounds_toArray, List.set_cons_zero, List.set_cons_succ]
      refine region_end (by kernel_rfl) ?_
      go_wp2_with fail
      (with_reducible apply pst_set (k := 4) (g := w.heap.size + 1))
      case hf => rfl
      case hp => rfl
      case hB => exact HRd.out
      case hb => exact HBd.out
      case hg => omega
      unfold atV
      simp only [*, if_true, if_false, Bool.false_eq_true, or_true, true_or, or_self, or_false, false_or]
      first | done | rfl)
set_option maxRecDepth 100000 in
set_option maxHeartbeats 3200000 in
theorem pafter_47 (k : Int) (n a p : List UInt8) (w : World) (ha : a.length ≤ 100000) : Calls Tryz.prog 135 #[stV k (ofL n) (ofL a) (ofL p), .int .u8 47] w (SvV (stV 1 (ofL n) ⟨#[]⟩ ⟨#[]⟩) w) := by
  unfold stV
  have HB2 := Lib.hid ((Bel.alloc w (.cells #[.int .i64 k, .string (ofL n), .string (ofL a), .string (ofL p)] 74)).trans (Bel.alloc (w.alloc (.cells #[.int .i64 k, .string (ofL n), .string (ofL a), .string (ofL p)] 74)) (.cells #[.int .i64 0, .string ⟨#[]⟩, .string ⟨#[]⟩, .string ⟨#[]⟩] 74)))
  have HR2 := Lib.hid (blk_at1h w (.cells #[.int .i64 k, .string (ofL n), .string (ofL a), .string (ofL p)] 74) 74 [.int .i64 0, .string ⟨#[]⟩, .string ⟨#[]⟩, .string ⟨#[]⟩])
  have HSP : Hid (∀ W, Calls Tryz.prog 150 #[.int .u8 47] W fun e w' => e = .returned (.bool false) ∧ w' = W) := Lib.hid (fun W => pspace_c 47 W)
  have HAT : Hid (∀ W, Calls Tryz.prog 134 #[.agg #[.int .i64 k, .string (ofL n), .string (ofL a), .string (ofL p)], .int .u8 47] W (SvV (.agg #[.int .i64 1, .string (ofL n), .string ⟨#[]⟩, .string ⟨#[]⟩]) W)) := Lib.hid (fun W => pattrname_c k n a p 47 W ha)
  go_enter Tryz.func135, Tryz.ntmps135
  go_wp2_with (first
    | (go_at_call 150; ((with_reducible refine (HSP.out _).mono ?_); rintro e w1 ⟨rfl, rfl⟩))
    | (go_at_call 134; ((with_reducible refine (HAT.out _).mono ?_); rintro e w2 ⟨rfl, hb⟩; have HB := Lib.hid (HB2.out.trans hb); have HR := Lib.hid (HR2.out.belh hb); clear hb; obtain ⟨r0, r1, r2, r3⟩ := cells4 HR.out; obtain ⟨v0, v1, v2, v3⟩ := frees4 HR.out)))
  all_goals (((with_reducible apply pst_set (k := 4) (g := w.heap.size + 1)); (case hf => rfl); (case hp => rfl); (case hB => exact HR.out); (case hb => exact HB.out); (case hg => omega)); rfl)
set_option maxRecDepth 100000 in
set_option maxHeartbeats 3200000 in
theorem pafter_61 (k : Int) (n a p : List UInt8) (w : World) (ha : a.length ≤ 100000) : Calls Tryz.prog 135 #[stV k (ofL n) (ofL a) (ofL p), .int .u8 61] w (SvV (stV 5 (ofL n) (ofL a) ⟨#[]⟩) w) := by
  unfold stV
  have HB2 := Lib.hid ((Bel.alloc w (.cells #[.int .i64 k, .string (ofL n), .string (ofL a), .string (ofL p)] 74)).trans (Bel.alloc (w.alloc (.cells #[.int .i64 k, .string (ofL n), .string (ofL a), .string (ofL p)] 74)) (.cells #[.int .i64 0, .string ⟨#[]⟩, .string ⟨#[]⟩, .string ⟨#[]⟩] 74)))
  have HR2 := Lib.hid (blk_at1h w (.cells #[.int .i64 k, .string (ofL n), .string (ofL a), .string (ofL p)] 74) 74 [.int .i64 0, .string ⟨#[]⟩, .string ⟨#[]⟩, .string ⟨#[]⟩])
  have HSP : Hid (∀ W, Calls Tryz.prog 150 #[.int .u8 61] W fun e w' => e = .returned (.bool false) ∧ w' = W) := Lib.hid (fun W => pspace_c 61 W)
  have HAT : Hid (∀ W, Calls Tryz.prog 134 #[.agg #[.int .i64 k, .string (ofL n), .string (ofL a), .string (ofL p)], .int .u8 61] W (SvV (.agg #[.int .i64 5, .string (ofL n), .string (ofL a), .string ⟨#[]⟩]) W)) := Lib.hid (fun W => pattrname_c k n a p 61 W ha)
  go_enter Tryz.func135, Tryz.ntmps135
  go_wp2_with (first
    | (go_at_call 150; ((with_reducible refine (HSP.out _).mono ?_); rintro e w1 ⟨rfl, rfl⟩))
    | (go_at_call 134; ((with_reducible refine (HAT.out _).mono ?_); rintro e w2 ⟨rfl, hb⟩; have HB := Lib.hid (HB2.out.trans hb); have HR := Lib.hid (HR2.out.belh hb); clear hb; obtain ⟨r0, r1, r2, r3⟩ := cells4 HR.out; obtain ⟨v0, v1, v2, v3⟩ := frees4 HR.out)))
  all_goals (((with_reducible apply pst_set (k := 4) (g := w.heap.size + 1)); (case hf => rfl); (case hp => rfl); (case hB => exact HR.out); (case hb => exact HB.out); (case hg => omega)); rfl)
set_option maxRecDepth 100000 in
set_option maxHeartbeats 3200000 in
theorem pafter_rest (k : Int) (n a p : List UInt8) (c : UInt8) (w : World) (h47 : ((c.toNat : Int) == 47) = false) (h61 : ((c.toNat : Int) == 61) = false) : Calls Tryz.prog 135 #[stV k (ofL n) (ofL a) (ofL p), .int .u8 c.toNat] w (SvV (afV k n a p c) w) := by
  unfold stV
  have HB2 := Lib.hid ((Bel.alloc w (.cells #[.int .i64 k, .string (ofL n), .string (ofL a), .string (ofL p)] 74)).trans (Bel.alloc (w.alloc (.cells #[.int .i64 k, .string (ofL n), .string (ofL a), .string (ofL p)] 74)) (.cells #[.int .i64 0, .string ⟨#[]⟩, .string ⟨#[]⟩, .string ⟨#[]⟩] 74)))
  have HR2 := Lib.hid (blk_at1h w (.cells #[.int .i64 k, .string (ofL n), .string (ofL a), .string (ofL p)] 74) 74 [.int .i64 0, .string ⟨#[]⟩, .string ⟨#[]⟩, .string ⟨#[]⟩])
  have HX2 := Lib.hid ((Blk.new w 74 [.int .i64 k, .string (ofL n), .string (ofL a), .string (ofL p)]).alloc (.cells #[.int .i64 0, .string ⟨#[]⟩, .string ⟨#[]⟩, .string ⟨#[]⟩] 74))
  have HSP := Lib.hid (fun W => pspace_c c W)
  have HA0 := Lib.hid (fun W => padd_c [] c W (by simp))
  rw [ofL_nil] at HA0
  have HA3 : Hid (∀ W, Calls Tryz.prog 151 #[.agg #[.int .i64 k, .string (ofL n), .string (ofL a), .string (ofL p)], .int .i64 3, .string (ofL (addL [] c))] W (SvV (.agg #[.int .i64 3, .string (ofL n), .string (ofL (addL [] c)), .string ⟨#[]⟩]) W)) := Lib.hid (fun W => pattr_c k 3 (ofL n) (ofL a) (ofL p) (ofL (addL [] c)) W)
  go_enter Tryz.func135, Tryz.ntmps135
  go_wp2_with (go_at_call 150; ((with_reducible refine (HSP.out _).mono ?_); rintro e w1 ⟨rfl, rfl⟩))
  all_goals first
    | (((with_reducible apply pst_new (k := 4) (g := w.heap.size + 1)); (case hf => rfl); (case hp => rfl); (case hg => simp); (case hb => exact (Bel.alloc _ _).trans (Bel.alloc _ _))); unfold afV; simp only [*, if_true, if_false, Bool.false_eq_true, or_true, true_or, or_self]; done)
    | skip
  all_goals
    first
    | done
    | (
      refine region_begin (T := [w.heap.size + 1]) (by kernel_rfl) ?_
      have HBd := Lib.hid (HB2.out.trans (Bel.drew _))
      have HRd := Lib.hid HR2.out.drew
      have HXd := Lib.hid HX2.out.drew
      generalize ((w.alloc (.cells #[.int .i64 k, .string (ofL n), .string (ofL a), .string (ofL p)] 74)).alloc (.cells #[.int .i64 0, .string ⟨#[]⟩, .string ⟨#[]⟩, .string ⟨#[]⟩] 74)).drew = Wd at HBd HRd HXd ⊢
      have p0 : ∀ X : Later [w.heap.size + 1] Wd, X.w.cell? ⟨w.heap.size, 0, none⟩ = some (.int .i64 k) := fun X => (HXd.out.only X.h (by simp)).cell 0
      have p1 : ∀ X : Later [w.heap.size + 1] Wd, X.w.cell? ⟨w.heap.size, 1, none⟩ = some (.string (ofL n)) := fun X => (HXd.out.only X.h (by simp)).cell 1
      have p2 : ∀ X : Later [w.heap.size + 1] Wd, X.w.cell? ⟨w.heap.size, 2, none⟩ = some (.string (ofL a)) := fun X => (HXd.out.only X.h (by simp)).cell 2
      have p3 : ∀ X : Later [w.heap.size + 1] Wd, X.w.cell? ⟨w.heap.size, 3, none⟩ = some (.string (ofL p)) := fun X => (HXd.out.only X.h (by simp)).cell 3
      refine region_seg [true, true] 3 (by kernel_rfl) (by kernel_rfl) (by kernel_rfl) rfl (fun _ _ d _ _ h => by cases d <;> exact h) ?_
      repeat (first | with_reducible refine wpMask_pass ?_ | (refine wpMask_want (by rfl) (fun K hK => ?_); go_big_quiet_op; refine hK _ ?_; clear hK K))
      with_reducible refine wpMask_nil ?_
      clear p0 p1 p2 p3
      refine region_call 2 (by kernel_rfl) rfl (by rfl) (by go_simp; exact ⟨rfl, rfl⟩) ?_
      (with_reducible refine (HA0.out _).mono ?_); rintro e w2 ⟨rfl, hb⟩; refine ⟨_, rfl, (Only.refl [w.heap.size + 1] _).join (bel_only hb) (by simp), ?_⟩
      replace HBd := Lib.hid (HBd.out.trans hb)
      replace HRd := Lib.hid (HRd.out.belh hb)
      clear hb
      simp only [List.getElem_toArray, List.getElem_cons_zero, List.getElem_cons_succ, Act.put, List.setIfInBounds_toArray, List.set_cons_zero, List.set_cons_succ]
      refine region_call 3 (by kernel_rfl) rfl (by rfl) (by go_simp; exact ⟨rfl, rfl⟩) ?_
      (with_reducible refine (HA3.out _).mono ?_); rintro e w3 ⟨rfl, hb⟩; refine ⟨_, rfl, (Only.refl [w.heap.size + 1] _).join (bel_only hb) (by simp), ?_⟩
      replace HBd := Lib.hid (HBd.out.trans hb)
      replace HRd := Lib.hid (HRd.out.belh hb)
      clear hb
      simp only [List.getElem_toArray, List.getElem_cons_zero, List.getElem_cons_succ, Act.put, List.setIfInBounds_toArray, List.set_cons_zero, List.set_cons_succ]
      obtain ⟨r0, r1, r2, r3⟩ := cells4 HRd.out
      obtain ⟨v0, v1, v2, v3⟩ := frees4 HRd.out
      refine region_store 4 (w1 := ((((w3.setCell ⟨w.heap.size + 1, 0, none⟩ (.int .i64 3)).setCell ⟨w.heap.size + 1, 1, none⟩ (.string (ofL n))).setCell ⟨w.heap.size + 1, 2, none⟩ (.string (ofL (addL [] c)))).setCell ⟨w.heap.size + 1, 3, none⟩ (.string ⟨#[]⟩))) (by kernel_rfl) rfl (by rfl) (by go_simp) (((((Only.refl [w.heap.size + 1] _).setCell (.inl (by simp)) _).setCell (.inl (by simp)) _).setCell (.inl (by simp)) _).setCell (.inl (by simp)) _) ?_
      simp only [List.getElem_toArray, List.getElem_cons_zero, List.getElem_cons_succ, Act.put, List.setIfInBounds_toArray, List.set_cons_zero, List.set_cons_succ]
      refine region_end (by kernel_rfl) ?_
      go_wp2_with fail
      (with_reducible apply pst_set (k := 4) (g := w.heap.size + 1))
      case hf => rfl
      case hp => rfl
      case hB => exact HRd.out
      case hb => exact HBd.out
      case hg => omega
      unfold afV
      simp only [*, if_true, if_false, Bool.false_eq_true, or_true, true_or, or_self, or_false, false_or]
      first | done | rfl)
theorem pafter_c (k : Int) (n a p : List UInt8) (c : UInt8) (w : World) (ha : a.length ≤ 100000) : Calls Tryz.prog 135 #[stV k (ofL n) (ofL a) (ofL p), .int .u8 c.toNat] w (SvV (afV k n a p c) w) := by
  by_cases h1 : c = 47
  · subst h1; exact pafter_47 k n a p w ha
  by_cases h2 : c = 61
  · subst h2; exact pafter_61 k n a p w ha
  exact pafter_rest k n a p c w (cf h1 47 rfl) (cf h2 61 rfl)
set_option maxRecDepth 100000 in
set_option maxHeartbeats 3200000 in
theorem pbefore_c (k : Int) (n a p : List UInt8) (c : UInt8) (w : World) (ha : a.length ≤ 100000) : Calls Tryz.prog 136 #[stV k (ofL n) (ofL a) (ofL p), .int .u8 c.toNat] w (SvV (bvV k n a p c) w) := by
  unfold stV
  have HB2 := Lib.hid ((Bel.alloc w (.cells #[.int .i64 k, .string (ofL n), .string (ofL a), .string (ofL p)] 74)).trans (Bel.alloc (w.alloc (.cells #[.int .i64 k, .string (ofL n), .string (ofL a), .string (ofL p)] 74)) (.cells #[.int .i64 0, .string ⟨#[]⟩, .string ⟨#[]⟩, .string ⟨#[]⟩] 74)))
  have HR2 := Lib.hid (blk_at1h w (.cells #[.int .i64 k, .string (ofL n), .string (ofL a), .string (ofL p)] 74) 74 [.int .i64 0, .string ⟨#[]⟩, .string ⟨#[]⟩, .string ⟨#[]⟩])
  have HX2 := Lib.hid ((Blk.new w 74 [.int .i64 k, .string (ofL n), .string (ofL a), .string (ofL p)]).alloc (.cells #[.int .i64 0, .string ⟨#[]⟩, .string ⟨#[]⟩, .string ⟨#[]⟩] 74))
  have HSP := Lib.hid (fun W => pspace_c c W)
  have HQ1 : Hid (∀ W, Calls Tryz.prog 152 #[.string (ofL a), .int .i64 9, .int .i64 11, .int .i64 7] W fun e w' => e = .returned (.int .i64 (quotedC a 34 : Nat)) ∧ w' = W) := Lib.hid (fun W => by have h := pquoted_c a 9 11 7 W ha; rw [quot_dq] at h; exact h)
  have HQ2 : Hid (∀ W, Calls Tryz.prog 152 #[.string (ofL a), .int .i64 10, .int .i64 12, .int .i64 8] W fun e w' => e = .returned (.int .i64 (quotedC a 39 : Nat)) ∧ w' = W) := Lib.hid (fun W => by have h := pquoted_c a 10 12 8 W ha; rw [quot_sq] at h; exact h)
  go_enter Tryz.func136, Tryz.ntmps136
  go_wp2_with (go_at_call 150; ((with_reducible refine (HSP.out _).mono ?_); rintro e w1 ⟨rfl, rfl⟩))
  all_goals first
    | (((with_reducible apply pst_new (k := 4) (g := w.heap.size + 1)); (case hf => rfl); (case hp => rfl); (case hg => simp); (case hb => exact (Bel.alloc _ _).trans (Bel.alloc _ _))); unfold bvV; simp only [*, if_true, if_false, Bool.false_eq_true, or_true, true_or, or_self]; done)
    | skip
  all_goals
    first
    | done
    | (
      refine region_begin (T := [w.heap.size + 1]) (by kernel_rfl) ?_
      have HBd := Lib.hid (HB2.out.trans (Bel.drew _))
      have HRd := Lib.hid HR2.out.drew
      have HXd := Lib.hid HX2.out.drew
      generalize ((w.alloc (.cells #[.int .i64 k, .string (ofL n), .string (ofL a), .string (ofL p)] 74)).alloc (.cells #[.int .i64 0, .string ⟨#[]⟩, .string ⟨#[]⟩, .string ⟨#[]⟩] 74)).drew = Wd at HBd HRd HXd ⊢
      have p0 : ∀ X : Later [w.heap.size + 1] Wd, X.w.cell? ⟨w.heap.size, 0, none⟩ = some (.int .i64 k) := fun X => (HXd.out.only X.h (by simp)).cell 0
      have p1 : ∀ X : Later [w.heap.size + 1] Wd, X.w.cell? ⟨w.heap.size, 1, none⟩ = some (.string (ofL n)) := fun X => (HXd.out.only X.h (by simp)).cell 1
      have p2 : ∀ X : Later [w.heap.size + 1] Wd, X.w.cell? ⟨w.heap.size, 2, none⟩ = some (.string (ofL a)) := fun X => (HXd.out.only X.h (by simp)).cell 2
      have p3 : ∀ X : Later [w.heap.size + 1] Wd, X.w.cell? ⟨w.heap.size, 3, none⟩ = some (.string (ofL p)) := fun X => (HXd.out.only X.h (by simp)).cell 3
      refine region_seg [true, true, false, true, true] 3 (by kernel_rfl) (by kernel_rfl) (by kernel_rfl) rfl (fun _ _ d _ _ h => by cases d <;> exact h) ?_
      repeat (first | with_reducible refine wpMask_pass ?_ | (refine wpMask_want (by rfl) (fun K hK => ?_); go_big_quiet_op; refine hK _ ?_; clear hK K))
      with_reducible refine wpMask_nil ?_
      clear p0 p1 p2 p3
      refine region_call 2 (by kernel_rfl) rfl (by rfl) (by go_simp; exact ⟨rfl, rfl⟩) ?_
      (with_reducible refine (HQ1.out _).mono ?_); rintro e w9 ⟨rfl, hq⟩; rw [hq]; clear hq w9; refine ⟨_, rfl, Only.refl _ _, ?_⟩
      simp only [List.getElem_toArray, List.getElem_cons_zero, List.getElem_cons_succ, Act.put, List.setIfInBounds_toArray, List.set_cons_zero, List.set_cons_succ]
      refine region_make 5 (v := .agg #[.int .i64 (quotedC a 34 : Nat), .string (ofL n), .string ⟨#[]⟩, .string ⟨#[]⟩]) (w1 := Wd) (by kernel_rfl) rfl (by rfl) (by go_simp) (Only.refl _ _) ?_
      simp only [List.getElem_toArray, List.getElem_cons_zero, List.getElem_cons_succ, Act.put, List.setIfInBounds_toArray, List.set_cons_zero, List.set_cons_succ]
      obtain ⟨r0, r1, r2, r3⟩ := cells4 HRd.out
      obtain ⟨v0, v1, v2, v3⟩ := frees4 HRd.out
      refine region_store 6 (w1 := ((((Wd.setCell ⟨w.heap.size + 1, 0, none⟩ (.int .i64 (quotedC a 34 : Nat))).setCell ⟨w.heap.size + 1, 1, none⟩ (.string (ofL n))).setCell ⟨w.heap.size + 1, 2, none⟩ (.string ⟨#[]⟩)).setCell ⟨w.heap.size + 1, 3, none⟩ (.string ⟨#[]⟩))) (by kernel_rfl) rfl (by rfl) (by go_simp) (((((Only.refl [w.heap.size + 1] _).setCell (.inl (by simp)) _).setCell (.inl (by simp)) _).setCell (.inl (by simp)) _).setCell (.inl (by simp)) _) ?_
      simp only [List.getElem_toArray, List.getElem_cons_zero, List.getElem_cons_succ, Act.put, List.setIfInBounds_toArray, List.set_cons_zero, List.set_cons_succ]
      refine region_end (by kernel_rfl) ?_
      go_wp2_with fail
      (with_reducible apply pst_set (k := 4) (g := w.heap.size + 1))
      case hf => rfl
      case hp => rfl
      case hB => exact HRd.out
      case hb => exact HBd.out
      case hg => omega
      unfold bvV
      simp only [*, if_true, if_false, Bool.false_eq_true, or_true, true_or, or_self, or_false, false_or]
      first | done | rfl)
    | (
      refine region_begin (T := [w.heap.size + 1]) (by kernel_rfl) ?_
      have HBd := Lib.hid (HB2.out.trans (Bel.drew _))
      have HRd := Lib.hid HR2.out.drew
      have HXd := Lib.hid HX2.out.drew
      generalize ((w.alloc (.cells #[.int .i64 k, .string (ofL n), .string (ofL a), .string (ofL p)] 74)).alloc (.cells #[.int .i64 0, .string ⟨#[]⟩, .string ⟨#[]⟩, .string ⟨#[]⟩] 74)).drew = Wd at HBd HRd HXd ⊢
      have p0 : ∀ X : Later [w.heap.size + 1] Wd, X.w.cell? ⟨w.heap.size, 0, none⟩ = some (.int .i64 k) := fun X => (HXd.out.only X.h (by simp)).cell 0
      have p1 : ∀ X : Later [w.heap.size + 1] Wd, X.w.cell? ⟨w.heap.size, 1, none⟩ = some (.string (ofL n)) := fun X => (HXd.out.only X.h (by simp)).cell 1
      have p2 : ∀ X : Later [w.heap.size + 1] Wd, X.w.cell? ⟨w.heap.size, 2, none⟩ = some (.string (ofL a)) := fun X => (HXd.out.only X.h (by simp)).cell 2
      have p3 : ∀ X : Later [w.heap.size + 1] Wd, X.w.cell? ⟨w.heap.size, 3, none⟩ = some (.string (ofL p)) := fun X => (HXd.out.only X.h (by simp)).cell 3
      refine region_seg [true, true, false, true, true] 3 (by kernel_rfl) (by kernel_rfl) (by kernel_rfl) rfl (fun _ _ d _ _ h => by cases d <;> exact h) ?_
      repeat (first | with_reducible refine wpMask_pass ?_ | (refine wpMask_want (by rfl) (fun K hK => ?_); go_big_quiet_op; refine hK _ ?_; clear hK K))
      with_reducible refine wpMask_nil ?_
      clear p0 p1 p2 p3
      refine region_call 2 (by kernel_rfl) rfl (by rfl) (by go_simp; exact ⟨rfl, rfl⟩) ?_
      (with_reducible refine (HQ2.out _).mono ?_); rintro e w9 ⟨rfl, hq⟩; rw [hq]; clear hq w9; refine ⟨_, rfl, Only.refl _ _, ?_⟩
      simp only [List.getElem_toArray, List.getElem_cons_zero, List.getElem_cons_succ, Act.put, List.setIfInBounds_toArray, List.set_cons_zero, List.set_cons_succ]
      refine region_make 5 (v := .agg #[.int .i64 (quotedC a 39 : Nat), .string (ofL n), .string ⟨#[]⟩, .string ⟨#[]⟩]) (w1 := Wd) (by kernel_rfl) rfl (by rfl) (by go_simp) (Only.refl _ _) ?_
      simp only [List.getElem_toArray, List.getElem_cons_zero, List.getElem_cons_succ, Act.put, List.setIfInBounds_toArray, List.set_cons_zero, List.set_cons_succ]
      obtain ⟨r0, r1, r2, r3⟩ := cells4 HRd.out
      obtain ⟨v0, v1, v2, v3⟩ := frees4 HRd.out
      refine region_store 6 (w1 := ((((Wd.setCell ⟨w.heap.size + 1, 0, none⟩ (.int .i64 (quotedC a 39 : Nat))).setCell ⟨w.heap.size + 1, 1, none⟩ (.string (ofL n))).setCell ⟨w.heap.size + 1, 2, none⟩ (.string ⟨#[]⟩)).setCell ⟨w.heap.size + 1, 3, none⟩ (.string ⟨#[]⟩))) (by kernel_rfl) rfl (by rfl) (by go_simp) (((((Only.refl [w.heap.size + 1] _).setCell (.inl (by simp)) _).setCell (.inl (by simp)) _).setCell (.inl (by simp)) _).setCell (.inl (by simp)) _) ?_
      simp only [List.getElem_toArray, List.getElem_cons_zero, List.getElem_cons_succ, Act.put, List.setIfInBounds_toArray, List.set_cons_zero, List.set_cons_succ]
      refine region_end (by kernel_rfl) ?_
      go_wp2_with fail
      (with_reducible apply pst_set (k := 4) (g := w.heap.size + 1))
      case hf => rfl
      case hp => rfl
      case hB => exact HRd.out
      case hb => exact HBd.out
      case hg => omega
      unfold bvV
      simp only [*, if_true, if_false, Bool.false_eq_true, or_true, true_or, or_self, or_false, false_or]
      first | done | rfl)
end Go.Proofs.YtpcapmdfjmpdiaaGreatDoor
