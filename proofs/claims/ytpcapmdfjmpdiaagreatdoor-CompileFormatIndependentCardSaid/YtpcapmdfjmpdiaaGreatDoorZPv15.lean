/-
  Contracts: the program of layer 15: content of scripts and styles.
-/
import Derived.Test.YtpcapmdfjmpdiaaGreatDoorZPt15
namespace Go.Proofs.YtpcapmdfjmpdiaaGreatDoor
open Go.RowKit Go.BigFrame
set_option linter.unusedVariables false
set_option linter.unusedSimpArgs false
set_option maxRecDepth 100000

/-- The end of 'elementOf'. -/
theorem pel_new {f : Func} {k g : Nat} {tmps : Array Value} {w w1 : World} {v0 v1 v2 v3 : Value} {v : Value} (hf : f.results = #[.cell k 197]) (hp : tmps.getD k undef = .pointer (some ⟨g, 0, none⟩)) (hg : g = w1.heap.size)
    (he : Value.agg #[v0, v1, v2, v3] = v) (hb : Bel w (w1.alloc (.cells #[v0, v1, v2, v3] 197))) : bodyPost Tryz.prog f (SvV v w) .ret { tmps := tmps, defers := [] } (w1.alloc (.cells #[v0, v1, v2, v3] 197)) := by
  subst hg
  refine bodyPost_ret (results_cell_row hf _ _ w1.heap.size _ _ (0, 0) _ hp (Blk.new w1 197 [v0, v1, v2, v3]) Tryz.underlying197 rfl (by kernel_rfl)) rfl ?_
  exact ⟨by rw [← he], hb⟩
set_option maxRecDepth 100000 in
theorem pelem16_c (k : Int) (hk : k = 16 ∨ k = 17 ∨ k = 18) (w : World) : Calls Tryz.prog 139 #[.int .i64 k] w (SvV (.agg #[.string ⟨#[60, 47, 115, 99, 114, 105, 112, 116]⟩, .int .i64 16, .int .i64 17, .int .i64 18]) w) := by
  rcases hk with rfl | rfl | rfl
  all_goals
    go_enter Tryz.func139, Tryz.ntmps139
    go_wp2_with fail
    exact pel_new rfl rfl rfl rfl (Bel.alloc _ _)
set_option maxRecDepth 100000 in
theorem pelem19_c (k : Int) (hk : k = 19 ∨ k = 20 ∨ k = 21) (w : World) : Calls Tryz.prog 139 #[.int .i64 k] w (SvV (.agg #[.string ⟨#[60, 47, 115, 116, 121, 108, 101]⟩, .int .i64 19, .int .i64 20, .int .i64 21]) w) := by
  rcases hk with rfl | rfl | rfl
  all_goals
    go_enter Tryz.func139, Tryz.ntmps139
    go_wp2_with fail
    exact pel_new rfl rfl rfl rfl (Bel.alloc _ _)
/-- 'stepCode' and 'stepString' as plain data. -/
def codeS (k d s : Nat) (c : UInt8) : HS := if c = 34 then s0 d else if c = 39 then s0 s else s0 k
def strS (k : Nat) (p : List UInt8) (c q : UInt8) (code : Nat) : HS := if p = [92] then s0 k else if c = q ∨ c = 10 then s0 code else if c = 92 then ⟨k, [], [], [92]⟩ else s0 k
theorem code_w (k d s : Nat) (c : UInt8) : codeS k d s c = if ((c.toNat : Int) == 34) = true then s0 d else if ((c.toNat : Int) == 39) = true then s0 s else s0 k := by
  have h34 : c = 34 ↔ ((c.toNat : Int) == 34) = true := by rw [u8_iff, beq_iff_eq]; rfl
  have h39 : c = 39 ↔ ((c.toNat : Int) == 39) = true := by rw [u8_iff, beq_iff_eq]; rfl
  unfold codeS
  simp only [← h34, ← h39]
theorem str_w (k : Nat) (p : List UInt8) (c q : UInt8) (code : Nat) : strS k p c q code = if ((ofL p).toList == [92]) = true then s0 k else if ((c.toNat : Int) == (q.toNat : Int)) = true ∨ ((c.toNat : Int) == 10) = true then s0 code else if ((c.toNat : Int) == 92) = true then ⟨k, [], [], [92]⟩ else s0 k := by
  have hq : c = q ↔ ((c.toNat : Int) == (q.toNat : Int)) = true := by rw [u8_iff, beq_iff_eq]
  have h10 : c = 10 ↔ ((c.toNat : Int) == 10) = true := by rw [u8_iff, beq_iff_eq]; rfl
  have h92 : c = 92 ↔ ((c.toNat : Int) == 92) = true := by rw [u8_iff, beq_iff_eq]; rfl
  unfold strS
  simp only [ofL_list, beq_iff_eq (a := p), ← hq, ← h10, ← h92]
set_option maxRecDepth 100000 in
theorem pcode_c (E : ByteArray) (k d s : Nat) (c : UInt8) (w : World) : Calls Tryz.prog 142 #[.int .u8 c.toNat, .agg #[.string E, .int .i64 (k : Nat), .int .i64 (d : Nat), .int .i64 (s : Nat)]] w (SvP (codeS k d s c) w) := by
  go_enter Tryz.func142, Tryz.ntmps142
  go_wp2_with fail
  all_goals refine pst_new rfl rfl (by simp) ?_ ((Bel.alloc _ _).trans (Bel.alloc _ _))
  all_goals rw [code_w]
  all_goals first
    | (simp only [*, if_true, if_false, Bool.false_eq_true]; rfl)
    | trace_state
set_option maxRecDepth 100000 in
set_option maxHeartbeats 3200000 in
theorem pstring_c (k code : Nat) (n a : ByteArray) (p : List UInt8) (c q : UInt8) (w : World) : Calls Tryz.prog 141 #[.agg #[.int .i64 (k : Nat), .string n, .string a, .string (ofL p)], .int .u8 c.toNat, .int .u8 q.toNat, .int .i64 (code : Nat)] w (SvP (strS k p c q code) w) := by
  go_enter Tryz.func141, Tryz.ntmps141
  go_wp2_with fail
  all_goals refine pst_new rfl rfl (by simp) ?_ ((Bel.alloc _ _).trans (Bel.alloc _ _))
  all_goals rw [str_w]
  all_goals first
    | (simp only [*, beq_self_eq_true, if_true, if_false, Bool.false_eq_true, true_or, or_true, or_self]; rfl)
    | (exfalso; simp_all; done)
    | trace_state
/-- The answer is a state and a bool. -/
def SvB (v : Value) (b : Bool) (w : World) (e : Ending) (w' : World) : Prop := e = .returned (.tuple #[v, .bool b]) ∧ Bel w w'
theorem results_row_tmp15 {P : Program} {fn : Func} {p u : Tmp} {ty : TypeId} (h : fn.results = #[.cell p ty, .tmp u]) (tmps : Array Value) (w : World) (g : Nat) (t : TypeId) (cs : Array Value) (fr : Nat × Nat) (d : TypeDesc)
    (hp : tmps.getD p undef = .pointer (some ⟨g, 0, none⟩)) (hg : w.heap[g]? = some (.cells cs t fr)) (hu : P.underlying ty = some d) (hd : (match d with | .struct _ | .array _ _ => true | _ => false) = true) (hi : (P.info? ty).map (·.size) = some cs.size) :
    (results fn tmps).run P w = .ok (.tuple #[.agg cs, tmps.getD u undef]) w := by
  rw [results_cell_tmp h, hp]
  simp only [asAddr, Sem.run_pure, Result.andThen_ok, run_loadVar_row w g t ty cs fr d hg hu hd hi]
theorem pend_new {f : Func} {k u g : Nat} {tmps : Array Value} {w w1 : World} {v0 v1 v2 v3 : Value} {v : Value} {b : Bool} (hf : f.results = #[.cell k 74, .tmp u]) (hp : tmps.getD k undef = .pointer (some ⟨g, 0, none⟩)) (hu : tmps.getD u undef = .bool b) (hg : g = w1.heap.size)
    (he : Value.agg #[v0, v1, v2, v3] = v) (hb : Bel w (w1.alloc (.cells #[v0, v1, v2, v3] 74))) : bodyPost Tryz.prog f (SvB v b w) .ret { tmps := tmps, defers := [] } (w1.alloc (.cells #[v0, v1, v2, v3] 74)) := by
  subst hg
  refine bodyPost_ret (results_row_tmp15 hf _ _ w1.heap.size _ _ (0, 0) _ hp (Blk.new w1 74 [v0, v1, v2, v3]) Tryz.underlying74 rfl (by kernel_rfl)) rfl ?_
  exact ⟨by rw [← he, hu], hb⟩
theorem pend_set {f : Func} {k u g : Nat} {tmps : Array Value} {w w1 : World} {a0 a1 a2 a3 v0 v1 v2 v3 : Value} {v : Value} {b : Bool} (hf : f.results = #[.cell k 74, .tmp u]) (hp : tmps.getD k undef = .pointer (some ⟨g, 0, none⟩)) (hu : tmps.getD u undef = .bool b)
    (he : Value.agg #[v0, v1, v2, v3] = v) (hB : Blk w1 g 74 [a0, a1, a2, a3]) (hb : Bel w w1) (hg : w.heap.size ≤ g) :
    bodyPost Tryz.prog f (SvB v b w) .ret { tmps := tmps, defers := [] } ((((w1.setCell ⟨g, 0, none⟩ v0).setCell ⟨g, 1, none⟩ v1).setCell ⟨g, 2, none⟩ v2).setCell ⟨g, 3, none⟩ v3) := by
  have h1 := (((hB.set_ 0 v0).set_ 1 v1).set_ 2 v2).set_ 3 v3
  simp only [List.set_cons_succ, List.set_cons_zero] at h1
  refine bodyPost_ret (results_row_tmp15 hf _ _ g _ _ (0, 0) _ hp h1 Tryz.underlying74 rfl (by kernel_rfl)) rfl ?_
  exact ⟨by rw [← he, hu], bel_on1 hb (((((Only.refl [g] w1).setCell (.inl (by simp)) _).setCell (.inl (by simp)) _).setCell (.inl (by simp)) _).setCell (.inl (by simp)) _) hg⟩
/-- 'stepEnd' in the words of a walk: the state and whether it is one. -/
def endS (k : Nat) (p : List UInt8) (c : UInt8) (E : List UInt8) : HS :=
  if preB p [60] = true then
    if ((ofL (p ++ [lowB c])).toList == (ofL E).toList) = true then s0 15
    else if preB E (p ++ [lowB c]) = true then ⟨k, [], [], p ++ [lowB c]⟩
    else if ((c.toNat : Int) == 60) = true then ⟨k, [], [], [60]⟩ else s0 0
  else if ((c.toNat : Int) == 60) = true then ⟨k, [], [], [60]⟩ else s0 0
def endB (p : List UInt8) (c : UInt8) (E : List UInt8) : Bool :=
  if preB p [60] = true then
    if ((ofL (p ++ [lowB c])).toList == (ofL E).toList) = true then true
    else if preB E (p ++ [lowB c]) = true then true
    else if ((c.toNat : Int) == 60) = true then true else false
  else if ((c.toNat : Int) == 60) = true then true else false
set_option maxRecDepth 100000 in
set_option maxHeartbeats 3200000 in
theorem pend_c (k : Nat) (n a : ByteArray) (p E : List UInt8) (c : UInt8) (w : World) (hp : p.length ≤ 1000) (hE : E.length ≤ 1000) :
    Calls Tryz.prog 140 #[.agg #[.int .i64 (k : Nat), .string n, .string a, .string (ofL p)], .int .u8 c.toNat, .string (ofL E)] w (SvB (endS k p c E).val (endB p c E) w) := by
  have HB2 := Lib.hid ((Bel.alloc w (.cells #[.int .i64 (k : Nat), .string n, .string a, .string (ofL p)] 74)).trans (Bel.alloc (w.alloc (.cells #[.int .i64 (k : Nat), .string n, .string a, .string (ofL p)] 74)) (.cells #[.int .i64 0, .string ⟨#[]⟩, .string ⟨#[]⟩, .string ⟨#[]⟩] 74)))
  have HR2 := Lib.hid (blk_at1h w (.cells #[.int .i64 (k : Nat), .string n, .string a, .string (ofL p)] 74) 74 [.int .i64 0, .string ⟨#[]⟩, .string ⟨#[]⟩, .string ⟨#[]⟩])
  have HX2 := Lib.hid ((Blk.new w 74 [.int .i64 (k : Nat), .string n, .string a, .string (ofL p)]).alloc (.cells #[.int .i64 0, .string ⟨#[]⟩, .string ⟨#[]⟩, .string ⟨#[]⟩] 74))
  have hz : (ofL p).size = p.length := rfl
  have HL := Lib.hid (fun W => plower_c c W)
  have HP1 : Hid (∀ W, Calls Tryz.prog 153 #[.string (ofL p), .string ⟨#[60]⟩] W fun e w' => e = .returned (.bool (preB p [60])) ∧ w' = W) := Lib.hid (fun W => hasPre_c p [60] W (by omega) (by decide))
  have HP2 := Lib.hid (fun W => hasPre_c E (p ++ [lowB c]) W (by omega) (by rw [List.length_append]; simp; omega))
  by_cases hpre : preB p [60] = true
  · rw [hpre] at HP1
    go_enter Tryz.func140, Tryz.ntmps140
    go_wp2_with (go_at_call 153; ((with_reducible refine (HP1.out _).mono ?_); rintro e w1 ⟨rfl, hw⟩; rw [hw]; clear hw w1))
    refine region_begin (T := []) (by kernel_rfl) ?_
    have HBd := Lib.hid (HB2.out.trans (Bel.drew _))
    have HRd := Lib.hid HR2.out.drew
    have HXd := Lib.hid HX2.out.drew
    generalize ((w.alloc (.cells #[.int .i64 (k : Nat), .string n, .string a, .string (ofL p)] 74)).alloc (.cells #[.int .i64 0, .string ⟨#[]⟩, .string ⟨#[]⟩, .string ⟨#[]⟩] 74)).drew = Wd at HBd HRd HXd ⊢
    have p0 : ∀ X : Later [] Wd, X.w.cell? ⟨w.heap.size, 0, none⟩ = some (.int .i64 (k : Nat)) := fun X => (HXd.out.only X.h (by simp)).cell 0
    have p3 : ∀ X : Later [] Wd, X.w.cell? ⟨w.heap.size, 3, none⟩ = some (.string (ofL p)) := fun X => (HXd.out.only X.h (by simp)).cell 3
    refine region_seg [true, true, true] 5 (by kernel_rfl) (by kernel_rfl) (by kernel_rfl) rfl (fun _ _ d _ _ h => by cases d <;> exact h) ?_
    repeat (first | with_reducible refine wpMask_pass ?_ | (refine wpMask_want (by rfl) (fun K hK => ?_); go_big_quiet_op; refine hK _ ?_; clear hK K))
    with_reducible refine wpMask_nil ?_
    clear p0 p3
    refine region_call 3 (by kernel_rfl) rfl (by rfl) (by go_simp; exact ⟨rfl, rfl⟩) ?_
    (with_reducible refine (HL.out _).mono ?_); rintro e w9 ⟨rfl, hq⟩; rw [hq]; clear hq w9; refine ⟨_, rfl, Only.refl _ _, ?_⟩
    simp only [List.getElem_toArray, List.getElem_cons_zero, List.getElem_cons_succ, Act.put, List.setIfInBounds_toArray, List.set_cons_zero, List.set_cons_succ]
    refine region_make 4 (v := .slice (some ⟨Wd.heap.size, 0, none⟩) 1 1) (w1 := Wd.alloc (.cells #[.int .u8 (lowB c).toNat] 5)) (by kernel_rfl) rfl (by rfl) (by go_simp) ((Only.refl _ _).alloc _) ?_
    simp only [List.getElem_toArray, List.getElem_cons_zero, List.getElem_cons_succ, Act.put, List.setIfInBounds_toArray, List.set_cons_zero, List.set_cons_succ]
    have ho := one_str (lowB c) Wd
    refine region_make 5 (v := .string ⟨#[lowB c]⟩) (w1 := Wd.alloc (.cells #[.int .u8 (lowB c).toNat] 5)) (by kernel_rfl) rfl (by rfl) (by go_simp) (Only.refl _ _) ?_
    simp only [List.getElem_toArray, List.getElem_cons_zero, List.getElem_cons_succ, Act.put, List.setIfInBounds_toArray, List.set_cons_zero, List.set_cons_succ]
    clear ho
    refine region_make 6 (v := .string (ofL (p ++ [lowB c]))) (w1 := Wd.alloc (.cells #[.int .u8 (lowB c).toNat] 5)) (by kernel_rfl) rfl (by rfl) (by rw [← ofL_snoc]; go_simp; omega) (Only.refl _ _) ?_
    simp only [List.getElem_toArray, List.getElem_cons_zero, List.getElem_cons_succ, Act.put, List.setIfInBounds_toArray, List.set_cons_zero, List.set_cons_succ]
    refine region_seg [false, false, false, false, false, false, false, true] 0 (by kernel_rfl) (by kernel_rfl) (by kernel_rfl) rfl (fun _ _ d _ _ h => by cases d <;> exact h) ?_
    repeat (first | with_reducible refine wpMask_pass ?_ | (refine wpMask_want (by rfl) (fun K hK => ?_); go_big_quiet_op; refine hK _ ?_; clear hK K))
    with_reducible refine wpMask_nil ?_
    refine region_end (by kernel_rfl) ?_
    have HBe := Lib.hid (HBd.out.trans (Bel.alloc _ (.cells #[.int .u8 (lowB c).toNat] 5)))
    have HRe := Lib.hid (HRd.out.alloc (.cells #[.int .u8 (lowB c).toNat] 5))
    have HXe := Lib.hid (HXd.out.alloc (.cells #[.int .u8 (lowB c).toNat] 5))
    generalize Wd.alloc (.cells #[.int .u8 (lowB c).toNat] 5) = We at HBe HRe HXe ⊢
    obtain ⟨r0, r1, r2, r3⟩ := cells4 HRe.out
    obtain ⟨v0, v1, v2, v3⟩ := frees4 HRe.out
    obtain ⟨x0, x1, x2, x3⟩ := cells4 HXe.out
    go_wp2_with (go_at_call 153; ((with_reducible refine (HP2.out _).mono ?_); rintro e w1 ⟨rfl, hw⟩; rw [hw]; clear hw w1))
    all_goals first
      | ((with_reducible apply pend_set (k := 6) (u := 7) (g := w.heap.size + 1)); (case hf => rfl); (case hp => rfl); (case hB => exact HRe.out); (case hb => exact HBe.out); (case hg => omega); (case hu => unfold endB; simp only [*, if_true, if_false, Bool.false_eq_true]; first | done | rfl); (unfold endS; simp only [*, if_true, if_false, Bool.false_eq_true]; first | done | rfl))
      | trace_state
  · have hpre2 : preB p [60] = false := by simpa using hpre
    clear hpre
    rw [hpre2] at HP1
    go_enter Tryz.func140, Tryz.ntmps140
    go_wp2_with (go_at_call 153; ((with_reducible refine (HP1.out _).mono ?_); rintro e w1 ⟨rfl, hw⟩; rw [hw]; clear hw w1))
    all_goals first
      | ((with_reducible apply pend_new (k := 6) (u := 7) (g := w.heap.size + 1)); (case hf => rfl); (case hp => rfl); (case hg => simp); (case hb => exact (Bel.alloc _ _).trans (Bel.alloc _ _)); (case hu => unfold endB; simp only [*, if_true, if_false, Bool.false_eq_true]; first | done | rfl); (unfold endS; simp only [*, if_true, if_false, Bool.false_eq_true]; first | done | rfl))
      | trace_state
end Go.Proofs.YtpcapmdfjmpdiaaGreatDoor
