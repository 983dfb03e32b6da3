/-
  Contracts: the reference of layer 15: small functions of bytes and names.
-/
import Derived.Test.YtjfnhlmmflammaaLa11
import Derived.Test.YtjfnhlmmflammaaHq15
namespace Go.Proofs.Ytjfnhlmmflammaa
open Go.RowKit Go.BigFrame
set_option linter.unusedVariables false
set_option linter.unusedSimpArgs false

theorem ret_u8 {a b : Int} (h : a = b) : Ending.returned (.int .u8 a) = .returned (.int .u8 b) := by rw [h]
theorem lowB_nat (c : UInt8) : ((lowB c).toNat : Int) = if 65 ≤ c.toNat ∧ c.toNat ≤ 90 then (c.toNat : Int) + 32 else c.toNat := by
  unfold lowB
  split
  · rw [UInt8.toNat_add]
    show (((c.toNat + 32) % 256 : Nat) : Int) = _
    omega
  · rfl
theorem rlower_c (c : UInt8) (w : World) :
    Calls Try.prog 44 #[.int .u8 c.toNat] w fun e w' => e = .returned (.int .u8 (lowB c).toNat) ∧ w' = w := by
  have hlt := c.toNat_lt
  go_enter Try.func44, Try.ntmps44
  go_wp2_with fail
  all_goals (go_ret; exact ⟨ret_u8 (by rw [lowB_nat]; split <;> omega), rfl⟩)
/-- A state as a value. -/
abbrev stV (k : Int) (n a p : ByteArray) : Value := .agg #[.int .i64 k, .string n, .string a, .string p]
def HS.val (s : HS) : Value := stV s.c (ofL s.n) (ofL s.a) (ofL s.p)
/-- The answer is a state. -/
def SvV (v : Value) (w : World) (e : Ending) (w' : World) : Prop := e = .returned v ∧ Bel w w'
abbrev SvP (s : HS) (w : World) : Ending → World → Prop := SvV s.val w
theorem str_eq (l : List UInt8) (b : ByteArray) : ((ofL l).toList == b.toList) = decide (l = b.data.toList) := by
  rw [ByteArray.toList_eq, ByteArray.toList_eq, Bool.eq_iff_iff, beq_iff_eq, decide_eq_true_iff]
  show l.toArray.toList = _ ↔ _
  simp
theorem str_eq' (l m : List UInt8) : ((ofL l).toList == m) = decide (l = m) := by
  rw [ByteArray.toList_eq, Bool.eq_iff_iff, beq_iff_eq, decide_eq_true_iff]
  show l.toArray.toList = _ ↔ _
  simp
/-- The end: the result lies in the newest block. -/
theorem st_new {f : Func} {k g : Nat} {tmps : Array Value} {w w1 : World} {v0 v1 v2 v3 : Value} {v : Value} (hf : f.results = #[.cell k 25]) (hp : tmps.getD k undef = .pointer (some ⟨g, 0, none⟩)) (hg : g = w1.heap.size)
    (he : Value.agg #[v0, v1, v2, v3] = v) (hb : Bel w (w1.alloc (.cells #[v0, v1, v2, v3] 25))) : bodyPost Try.prog f (SvV v w) .ret { tmps := tmps, defers := [] } (w1.alloc (.cells #[v0, v1, v2, v3] 25)) := by
  subst hg
  refine bodyPost_ret (results_cell_row hf _ _ w1.heap.size _ _ (0, 0) _ hp (Blk.new w1 25 [v0, v1, v2, v3]) Try.underlying25 rfl (by kernel_rfl)) rfl ?_
  exact ⟨by rw [← he], hb⟩
set_option maxRecDepth 100000 in
theorem ropen_c (n : List UInt8) (w : World) : Calls Try.prog 41 #[.string (ofL n)] w (SvP (openS n) w) := by
  have t1 := str_eq n ⟨#[115, 99, 114, 105, 112, 116]⟩
  have t2 := str_eq n ⟨#[115, 116, 121, 108, 101]⟩
  go_enter Try.func41, Try.ntmps41
  go_wp2_with fail
  all_goals refine st_new rfl rfl (by simp) ?_ (Bel.alloc _ _)
  all_goals simp_all [str_eq', openS, scriptL, styleL, HS.val, stV, s0, ofL]
theorem ltrB_eq (c : UInt8) : ltrB c = (decide ((97 : Int) ≤ ((lowB c).toNat : Int)) && decide (((lowB c).toNat : Int) ≤ 122)) := by
  unfold ltrB
  rw [Bool.eq_iff_iff]
  simp
  omega
theorem spcB_iff (c : UInt8) : spcB c = true ↔ c.toNat = 32 ∨ c.toNat = 9 ∨ c.toNat = 10 ∨ c.toNat = 12 ∨ c.toNat = 13 := by
  unfold spcB
  simp only [Bool.or_eq_true, beq_iff_eq, ← UInt8.toNat_inj]
  simp
theorem rletter_c (c : UInt8) (w : World) :
    Calls Try.prog 39 #[.int .u8 c.toNat] w fun e w' => e = .returned (.bool (ltrB c)) ∧ w' = w := by
  have hlt := c.toNat_lt
  have HL := Lib.hid (rlower_c c w)
  go_enter Try.func39, Try.ntmps39
  go_wp2_with (go_at_call 44; ((with_reducible refine HL.out.mono ?_); rintro e w' ⟨rfl, rfl⟩))
  all_goals (go_ret; refine ⟨ret_bool ?_, rfl⟩; rw [ltrB_eq]; simp; try omega)
theorem rspace_c (c : UInt8) (w : World) :
    Calls Try.prog 42 #[.int .u8 c.toNat] w fun e w' => e = .returned (.bool (spcB c)) ∧ w' = w := by
  have hlt := c.toNat_lt
  go_enter Try.func42, Try.ntmps42
  go_wp2_with fail
  all_goals (go_ret; refine ⟨ret_bool ?_, rfl⟩; rw [Bool.eq_iff_iff, spcB_iff]; simp; try omega)
theorem one_str (d : UInt8) (W : World) : (convert 49 9 (.slice (some ⟨W.heap.size, 0, none⟩) 1 1)).run Try.prog (W.alloc (.cells #[.int .u8 d.toNat] 5)) = .ok (.string ⟨#[d]⟩) (W.alloc (.cells #[.int .u8 d.toNat] 5)) :=
  run_string_of (l := [d]) Try.underlying49 Try.underlying5 Try.underlying9 (Reads.of_blk (Blk.new W 5 (vbs [d])) 0 1 (by simp [vbs]) (Nat.lt_succ_self _)) 1
theorem ofL_snoc (s : List UInt8) (d : UInt8) : ofL s ++ ⟨#[d]⟩ = ofL (s ++ [d]) := by
  apply toL_inj
  show (ofL s ++ ⟨#[d]⟩ : ByteArray).data.toList = _
  rw [ByteArray.data_append]
  simp [toL, ofL]
theorem ofL_list (p : List UInt8) : (ofL p).toList = p := by rw [ByteArray.toList_eq]; simp [ofL]
theorem u8_iff (c k : UInt8) : c = k ↔ (c.toNat : Int) = (k.toNat : Int) := by rw [← UInt8.toNat_inj]; omega
theorem radd_c (s : List UInt8) (c : UInt8) (w : World) (hs : s.length ≤ 100000) :
    Calls Try.prog 40 #[.string (ofL s), .int .u8 c.toNat] w fun e w' => e = .returned (.string (ofL (addL s c))) ∧ Bel w w' := by
  have HL := Lib.hid (rlower_c c w)
  have HO := Lib.hid (one_str (lowB c) w)
  have hz : (ofL s).size = s.length := rfl
  have ho := HO.out
  go_enter Try.func40, Try.ntmps40
  go_wp2_with (go_at_call 44; ((with_reducible refine HL.out.mono ?_); rintro e w' ⟨rfl, rfl⟩))
  · go_ret
    exact ⟨by unfold addL; rw [if_pos (by omega)]; rfl, Bel.refl _⟩
  · go_ret
    exact ⟨by unfold addL; rw [if_neg (by omega), ← ofL_snoc]; rfl, Bel.alloc _ _⟩
set_option maxRecDepth 100000 in
theorem rcomment_c (k : Int) (n a : ByteArray) (p : List UInt8) (c : UInt8) (w : World) : Calls Try.prog 22 #[stV k n a (ofL p), .int .u8 c.toNat] w (SvP (commentS p c) w) := by
  unfold stV
  go_enter Try.func22, Try.ntmps22
  go_wp2_with fail
  all_goals refine st_new rfl rfl (by simp) ?_ ((Bel.alloc _ _).trans (Bel.alloc _ _))
  all_goals simp_all [ofL_list, u8_iff, commentS, HS.val, stV, s0, ofL]
theorem blk_at1h (w : World) (o : Obj) (T : TypeId) (L : List Value) : Blk ((w.alloc o).alloc (.cells L.toArray T)) (w.heap.size + 1) T L := by
  have := Blk.new (w.alloc o) T L
  rwa [show (w.alloc o).heap.size = w.heap.size + 1 by simp] at this
theorem Blk.belh {w w' : World} {g : Nat} {t : TypeId} {cs : List Value} (h : Blk w g t cs) (hb : Bel w w') : Blk w' g t cs := h.below hb h.lt
theorem cells4 {w : World} {g : Nat} {T : TypeId} {a0 a1 a2 a3 : Value} (h : Blk w g T [a0, a1, a2, a3]) :
    w.cell? ⟨g, 0, none⟩ = some a0 ∧ w.cell? ⟨g, 1, none⟩ = some a1 ∧ w.cell? ⟨g, 2, none⟩ = some a2 ∧ w.cell? ⟨g, 3, none⟩ = some a3 := ⟨h.cell 0, h.cell 1, h.cell 2, h.cell 3⟩
theorem frees4 {w : World} {g : Nat} {T : TypeId} {cs : List Value} (h : Blk w g T cs) :
    w.frozen? ⟨g, 0, none⟩ = false ∧ w.frozen? ⟨g, 1, none⟩ = false ∧ w.frozen? ⟨g, 2, none⟩ = false ∧ w.frozen? ⟨g, 3, none⟩ = false := ⟨h.free 0, h.free 1, h.free 2, h.free 3⟩
/-- The end: the result's cells are written one by one. -/
theorem st_set {f : Func} {k g : Nat} {tmps : Array Value} {w w1 : World} {a0 a1 a2 a3 v0 v1 v2 v3 : Value} {v : Value} (hf : f.results = #[.cell k 25]) (hp : tmps.getD k undef = .pointer (some ⟨g, 0, none⟩))
    (he : Value.agg #[v0, v1, v2, v3] = v) (hB : Blk w1 g 25 [a0, a1, a2, a3]) (hb : Bel w w1) (hg : w.heap.size ≤ g) :
    bodyPost Try.prog f (SvV v w) .ret { tmps := tmps, defers := [] } ((((w1.setCell ⟨g, 0, none⟩ v0).setCell ⟨g, 1, none⟩ v1).setCell ⟨g, 2, none⟩ v2).setCell ⟨g, 3, none⟩ v3) := by
  have h1 := (((hB.set_ 0 v0).set_ 1 v1).set_ 2 v2).set_ 3 v3
  simp only [List.set_cons_succ, List.set_cons_zero] at h1
  refine bodyPost_ret (results_cell_row hf _ _ g _ _ (0, 0) _ hp h1 Try.underlying25 rfl (by kernel_rfl)) rfl ?_
  exact ⟨by rw [← he], bel_on1 hb (((((Only.refl [g] w1).setCell (.inl (by simp)) _).setCell (.inl (by simp)) _).setCell (.inl (by simp)) _).setCell (.inl (by simp)) _) hg⟩
theorem ofL_nil : ofL [] = ⟨#[]⟩ := rfl
theorem pt {p q : List UInt8} (h : p = q) : ((ofL p).toList == q) = true := by rw [str_eq']; exact decide_eq_true h
theorem pf {p q : List UInt8} (h : ¬ p = q) : ((ofL p).toList == q) = false := by rw [str_eq']; exact decide_eq_false h
theorem ct {c k : UInt8} (h : c = k) (m : Int) (hm : (k.toNat : Int) = m) : ((c.toNat : Int) == m) = true := by subst h; rw [hm]; exact beq_self_eq_true m
theorem cf {c k : UInt8} (h : ¬ c = k) (m : Int) (hm : (k.toNat : Int) = m) : ((c.toNat : Int) == m) = false := by
  rw [beq_eq_false_iff_ne, ← hm]
  intro e
  exact h ((u8_iff c k).2 e)
theorem bf {b : Bool} (h : ¬ b = true) : b = false := by simpa using h
/-- The end: the result lies in the block before the newest. -/
theorem st_mid {f : Func} {k g : Nat} {tmps : Array Value} {w w1 : World} {o : Obj} {v0 v1 v2 v3 : Value} {v : Value} (hf : f.results = #[.cell k 25]) (hp : tmps.getD k undef = .pointer (some ⟨g, 0, none⟩)) (hg : g = w1.heap.size)
    (he : Value.agg #[v0, v1, v2, v3] = v) (hb : Bel w ((w1.alloc (.cells #[v0, v1, v2, v3] 25)).alloc o)) : bodyPost Try.prog f (SvV v w) .ret { tmps := tmps, defers := [] } ((w1.alloc (.cells #[v0, v1, v2, v3] 25)).alloc o) := by
  subst hg
  refine bodyPost_ret (results_cell_row hf _ _ w1.heap.size _ _ (0, 0) _ hp ((Blk.new w1 25 [v0, v1, v2, v3]).alloc o) Try.underlying25 rfl (by kernel_rfl)) rfl ?_
  exact ⟨by rw [← he], hb⟩

/-! ### Drawn regions of which some operations write to what was made within them -/
section
variable {P : Program} {ops : Array Oper} {Q : Exit → Act → World → Prop} {S : World → Prop}
theorem reg_call (e : Nat) {listed : Array Bool} {fuel : Nat} {a : Act} {w : World} {o : Oper} {f : FuncId} {args : Array Value} (hr : Region.ready .any ops listed = [e])
    (ho : ops[e]? = some o) (hw : Region.wanted o (yielded ops a.tmps) = true) (hrun : (execOp a.eval o).run P w = .ok (.enter f args) w)
    (hc : Calls P f args w fun x w1 => ∃ v, x = .returned v ∧ S w1 ∧ wpAnyH P .any ops Q S fuel (listed.setIfInBounds e true) (a.put o.dst v) w1) : wpAnyH P .any ops Q S (fuel + 1) listed a w := by
  refine wpAnyH_all hr (by simp) (fun i hi => ?_)
  simp only [List.mem_singleton] at hi
  subst hi
  unfold wpOp
  simp only [ho, hw, if_true]
  refine .inl ?_
  unfold Oper.wp
  rw [hrun]
  simp only [Oper.upon]
  refine hc.mono ?_
  rintro x w1 ⟨v, rfl, hO, h⟩
  exact ⟨hO, h⟩
theorem op_call0 {e : Nat} {listed : Array Bool} {fuel : Nat} {a : Act} {w : World} {o : Oper} {f : FuncId} {args : Array Value}
    (ho : ops[e]? = some o) (hw : Region.wanted o (yielded ops a.tmps) = true) (hrun : (execOp a.eval o).run P w = .ok (.enter f args) w)
    (hc : Calls P f args w fun x w1 => ∃ v, x = .returned v ∧ S w1 ∧ wpAnyH P .any ops Q S fuel (listed.setIfInBounds e true) (a.put o.dst v) w1) :
    wpOp P ops Q e (fun a' w' => S w' ∧ wpAnyH P .any ops Q S fuel (listed.setIfInBounds e true) a' w') a w := by
  unfold wpOp
  simp only [ho, hw, if_true]
  refine .inl ?_
  unfold Oper.wp
  rw [hrun]
  simp only [Oper.upon]
  refine hc.mono ?_
  rintro x w1 ⟨v, rfl, hO, h⟩
  exact ⟨hO, h⟩
theorem op_make0 {e : Nat} {listed : Array Bool} {fuel : Nat} {a : Act} {w w1 : World} {o : Oper} {v : Value}
    (ho : ops[e]? = some o) (hw : Region.wanted o (yielded ops a.tmps) = true) (hrun : (execOp a.eval o).run P w = .ok (.value v) w1) (hO : S w1)
    (h : wpAnyH P .any ops Q S fuel (listed.setIfInBounds e true) (a.put o.dst v) w1) :
    wpOp P ops Q e (fun a' w' => S w' ∧ wpAnyH P .any ops Q S fuel (listed.setIfInBounds e true) a' w') a w := by
  unfold wpOp
  simp only [ho, hw, if_true]
  refine .inl ?_
  unfold Oper.wp
  rw [hrun]
  simp only [Oper.upon]
  exact ⟨hO, h⟩
theorem reg_make (e : Nat) {listed : Array Bool} {fuel : Nat} {a : Act} {w w1 : World} {o : Oper} {v : Value} (hr : Region.ready .any ops listed = [e])
    (ho : ops[e]? = some o) (hw : Region.wanted o (yielded ops a.tmps) = true) (hrun : (execOp a.eval o).run P w = .ok (.value v) w1) (hO : S w1)
    (h : wpAnyH P .any ops Q S fuel (listed.setIfInBounds e true) (a.put o.dst v) w1) : wpAnyH P .any ops Q S (fuel + 1) listed a w := by
  refine wpAnyH_all hr (by simp) (fun i hi => ?_)
  simp only [List.mem_singleton] at hi
  subst hi
  exact op_make0 ho hw hrun hO h
theorem reg_store (e : Nat) {listed : Array Bool} {fuel : Nat} {a : Act} {w w1 : World} {o : Oper} (hr : Region.ready .any ops listed = [e])
    (ho : ops[e]? = some o) (hw : Region.wanted o (yielded ops a.tmps) = true) (hrun : (execOp a.eval o).run P w = .ok .skip w1) (hO : S w1)
    (h : wpAnyH P .any ops Q S fuel (listed.setIfInBounds e true) (a.put o.dst undef) w1) : wpAnyH P .any ops Q S (fuel + 1) listed a w := by
  refine wpAnyH_all hr (by simp) (fun i hi => ?_)
  simp only [List.mem_singleton] at hi
  subst hi
  unfold wpOp
  simp only [ho, hw, if_true]
  refine .inl ?_
  unfold Oper.wp
  rw [hrun]
  simp only [Oper.upon]
  exact ⟨hO, h⟩
theorem reg_seg {T : List Nat} {w0 : World} (m : List Bool) {listed : Array Bool} {fuel : Nat} (fuel' : Nat) {a : Act} {w : World} {l : List Oper} (hS : Only T w0 w) (hs : Region.noSelect l.toArray = true) (hm : (decide (m.length ≤ l.length)) = true)
    (hok : segOk l.toArray (places 0 m) listed = true)
    (hf : fuel' + (places 0 m).length = fuel) (hQ : ∀ c (a : Act) d v w, Q (.panic c) (a.put d v) w → Q (.panic c) a w)
    (h : wpMask P l.toArray (fun w' => ∃ x : Later T w0, w' = x.w) (fun b => wpAnyH P .any l.toArray Q (Only T w0) fuel' (marked listed (places 0 m)) b w) m l a) : wpAnyH P .any l.toArray Q (Only T w0) fuel listed a w := by
  subst hf
  refine take_list (fun w' h' => ⟨⟨w', h'⟩, rfl⟩) hs hQ (places 0 m) fuel' listed a w hok hS (wpSeg_of_mask m l 0 a (fun j => by simp) ?_ h)
  have := of_decide_eq_true hm
  simpa using this
end
end Go.Proofs.Ytjfnhlmmflammaa
