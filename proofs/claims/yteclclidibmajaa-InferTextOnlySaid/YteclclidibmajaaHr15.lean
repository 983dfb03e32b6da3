/-
  Contracts: the reference of layer 15: small functions of bytes and names.
  Contracts: the reference of layer 15: text.
  Contracts: the reference of layer 15: quoted, Escaper.
-/
import Derived.Test.YteclclidibmajaaLa11
import Derived.Test.YteclclidibmajaaHq15
namespace Go.Proofs.Yteclclidibmajaa
open Go.RowKit Go.BigFrame
set_option linter.unusedVariables false
set_option linter.unusedSimpArgs false
set_option maxRecDepth 100000

theorem ret_u8 {a b : Int} (h : a = b) : Ending.returned (.int .u8 a) = .returned (.int .u8 b) := by rw [h]
theorem lowB_nat (c : UInt8) : ((lowB c).toNat : Int) = if 65 ≤ c.toNat ∧ c.toNat ≤ 90 then (c.toNat : Int) + 32 else c.toNat := by
  unfold lowB
  split
  · rw [UInt8.toNat_add]
    show (((c.toNat + 32) % 256 : Nat) : Int) = _
    omega
  · rfl
theorem rlower_c (c : UInt8) (w : World) :
    Calls Try.prog 66 #[.int .u8 c.toNat] w fun e w' => e = .returned (.int .u8 (lowB c).toNat) ∧ w' = w := by
  have hlt := c.toNat_lt
  go_enter Try.func66, Try.ntmps66
  go_wp2_with fail
  all_goals (go_ret; exact ⟨ret_u8 (by rw [lowB_nat]; split <;> omega), rfl⟩)
/-- A state as a value. -/
abbrev stV (k : Int) (n a p : ByteArray) : Value := .agg #[.int .i64 k, .string n, .string a, .string p]
def HS.val (s : HS) : Value := stV s.c (ofL s.n) (ofL s.a) (ofL s.p)
/-- The answer is a state. -/
def SvV (v : Value) (w : World) (e : Ending) (w' : World) : Prop := e = .returned v ∧ Bel w w'
abbrev SvP (s : HS) (w : World) : Ending → World → Prop := SvV s.val w
theorem str_eq (l : List UInt8) (b : ByteArray) : ((ofL l).toList == b.toList) = decide (l = b.data.toList) := by
  rw [ByteArray.toList_eq, ByteArray.toList_eq, Bool.eq_iff_iff, beq_iff_eq, decide_eq_true_iff]
  show l.toArray.toList = _ ↔ _
  simp
theorem str_eq' (l m : List UInt8) : ((ofL l).toList == m) = decide (l = m) := by
  rw [ByteArray.toList_eq, Bool.eq_iff_iff, beq_iff_eq, decide_eq_true_iff]
  show l.toArray.toList = _ ↔ _
  simp
/-- The end: the result lies in the newest block. -/
theorem st_new {f : Func} {k g : Nat} {tmps : Array Value} {w w1 : World} {v0 v1 v2 v3 : Value} {v : Value} (hf : f.results = #[.cell k 38]) (hp : tmps.getD k undef = .pointer (some ⟨g, 0, none⟩)) (hg : g = w1.heap.size)
    (he : Value.agg #[v0, v1, v2, v3] = v) (hb : Bel w (w1.alloc (.cells #[v0, v1, v2, v3] 38))) : bodyPost Try.prog f (SvV v w) .ret { tmps := tmps, defers := [] } (w1.alloc (.cells #[v0, v1, v2, v3] 38)) := by
  subst hg
  refine bodyPost_ret (results_cell_row hf _ _ w1.heap.size _ _ (0, 0) _ hp (Blk.new w1 38 [v0, v1, v2, v3]) Try.underlying38 rfl (by kernel_rfl)) rfl ?_
  exact ⟨by rw [← he], hb⟩
set_option maxRecDepth 100000 in
theorem ropen_c (n : List UInt8) (w : World) : Calls Try.prog 63 #[.string (ofL n)] w (SvP (openS n) w) := by
  have t1 := str_eq n ⟨#[115, 99, 114, 105, 112, 116]⟩
  have t2 := str_eq n ⟨#[115, 116, 121, 108, 101]⟩
  go_enter Try.func63, Try.ntmps63
  go_wp2_with fail
  all_goals refine st_new rfl rfl (by simp) ?_ (Bel.alloc _ _)
  all_goals simp_all [str_eq', openS, scriptL, styleL, HS.val, stV, s0, ofL]
theorem ltrB_eq (c : UInt8) : ltrB c = (decide ((97 : Int) ≤ ((lowB c).toNat : Int)) && decide (((lowB c).toNat : Int) ≤ 122)) := by
  unfold ltrB
  rw [Bool.eq_iff_iff]
  simp
  omega
theorem spcB_iff (c : UInt8) : spcB c = true ↔ c.toNat = 32 ∨ c.toNat = 9 ∨ c.toNat = 10 ∨ c.toNat = 12 ∨ c.toNat = 13 := by
  unfold spcB
  simp only [Bool.or_eq_true, beq_iff_eq, ← UInt8.toNat_inj]
  simp
theorem rletter_c (c : UInt8) (w : World) :
    Calls Try.prog 61 #[.int .u8 c.toNat] w fun e w' => e = .returned (.bool (ltrB c)) ∧ w' = w := by
  have hlt := c.toNat_lt
  have HL := Lib.hid (rlower_c c w)
  go_enter Try.func61, Try.ntmps61
  go_wp2_with (go_at_call 66; ((with_reducible refine HL.out.mono ?_); rintro e w' ⟨rfl, rfl⟩))
  all_goals (go_ret; refine ⟨ret_bool ?_, rfl⟩; rw [ltrB_eq]; simp; try omega)
theorem rspace_c (c : UInt8) (w : World) :
    Calls Try.prog 64 #[.int .u8 c.toNat] w fun e w' => e = .returned (.bool (spcB c)) ∧ w' = w := by
  have hlt := c.toNat_lt
  go_enter Try.func64, Try.ntmps64
  go_wp2_with fail
  all_goals (go_ret; refine ⟨ret_bool ?_, rfl⟩; rw [Bool.eq_iff_iff, spcB_iff]; simp; try omega)
theorem one_str (d : UInt8) (W : World) : (convert 89 9 (.slice (some ⟨W.heap.size, 0, none⟩) 1 1)).run Try.prog (W.alloc (.cells #[.int .u8 d.toNat] 5)) = .ok (.string ⟨#[d]⟩) (W.alloc (.cells #[.int .u8 d.toNat] 5)) :=
  run_string_of (l := [d]) Try.underlying89 Try.underlying5 Try.underlying9 (Reads.of_blk (Blk.new W 5 (vbs [d])) 0 1 (by simp [vbs]) (Nat.lt_succ_self _)) 1
theorem ofL_snoc (s : List UInt8) (d : UInt8) : ofL s ++ ⟨#[d]⟩ = ofL (s ++ [d]) := by
  apply toL_inj
  show (ofL s ++ ⟨#[d]⟩ : ByteArray).data.toList = _
  rw [ByteArray.data_append]
  simp [toL, ofL]
theorem ofL_list (p : List UInt8) : (ofL p).toList = p := by rw [ByteArray.toList_eq]; simp [ofL]
theorem u8_iff (c k : UInt8) : c = k ↔ (c.toNat : Int) = (k.toNat : Int) := by rw [← UInt8.toNat_inj]; omega
theorem radd_c (s : List UInt8) (c : UInt8) (w : World) (hs : s.length ≤ 100000) :
    Calls Try.prog 62 #[.string (ofL s), .int .u8 c.toNat] w fun e w' => e = .returned (.string (ofL (addL s c))) ∧ Bel w w' := by
  have HL := Lib.hid (rlower_c c w)
  have HO := Lib.hid (one_str (lowB c) w)
  have hz : (ofL s).size = s.length := rfl
  have ho := HO.out
  go_enter Try.func62, Try.ntmps62
  go_wp2_with (go_at_call 66; ((with_reducible refine HL.out.mono ?_); rintro e w' ⟨rfl, rfl⟩))
  · go_ret
    exact ⟨by unfold addL; rw [if_pos (by omega)]; rfl, Bel.refl _⟩
  · go_ret
    exact ⟨by unfold addL; rw [if_neg (by omega), ← ofL_snoc]; rfl, Bel.alloc _ _⟩
set_option maxRecDepth 100000 in
theorem rcomment_c (k : Int) (n a : ByteArray) (p : List UInt8) (c : UInt8) (w : World) : Calls Try.prog 36 #[stV k n a (ofL p), .int .u8 c.toNat] w (SvP (commentS p c) w) := by
  unfold stV
  go_enter Try.func36, Try.ntmps36
  go_wp2_with fail
  all_goals refine st_new rfl rfl (by simp) ?_ ((Bel.alloc _ _).trans (Bel.alloc _ _))
  all_goals simp_all [ofL_list, u8_iff, commentS, HS.val, stV, s0, ofL]
theorem blk_at1h (w : World) (o : Obj) (T : TypeId) (L : List Value) : Blk ((w.alloc o).alloc (.cells L.toArray T)) (w.heap.size + 1) T L := by
  have := Blk.new (w.alloc o) T L
  rwa [show (w.alloc o).heap.size = w.heap.size + 1 by simp] at this
theorem Blk.belh {w w' : World} {g : Nat} {t : TypeId} {cs : List Value} (h : Blk w g t cs) (hb : Bel w w') : Blk w' g t cs := h.below hb h.lt
theorem cells4 {w : World} {g : Nat} {T : TypeId} {a0 a1 a2 a3 : Value} (h : Blk w g T [a0, a1, a2, a3]) :
    w.cell? ⟨g, 0, none⟩ = some a0 ∧ w.cell? ⟨g, 1, none⟩ = some a1 ∧ w.cell? ⟨g, 2, none⟩ = some a2 ∧ w.cell? ⟨g, 3, none⟩ = some a3 := ⟨h.cell 0, h.cell 1, h.cell 2, h.cell 3⟩
theorem frees4 {w : World} {g : Nat} {T : TypeId} {cs : List Value} (h : Blk w g T cs) :
    w.frozen? ⟨g, 0, none⟩ = false ∧ w.frozen? ⟨g, 1, none⟩ = false ∧ w.frozen? ⟨g, 2, none⟩ = false ∧ w.frozen? ⟨g, 3, none⟩ = false := ⟨h.free 0, h.free 1, h.free 2, h.free 3⟩
/-- The end: the result's cells are written one by one. -/
theorem st_set {f : Func} {k g : Nat} {tmps : Array Value} {w w1 : World} {a0 a1 a2 a3 v0 v1 v2 v3 : Value} {v : Value} (hf : f.results = #[.cell k 38]) (hp : tmps.getD k undef = .pointer (some ⟨g, 0, none⟩))
    (he : Value.agg #[v0, v1, v2, v3] = v) (hB : Blk w1 g 38 [a0, a1, a2, a3]) (hb : Bel w w1) (hg : w.heap.size ≤ g) :
    bodyPost Try.prog f (SvV v w) .ret { tmps := tmps, defers := [] } ((((w1.setCell ⟨g, 0, none⟩ v0).setCell ⟨g, 1, none⟩ v1).setCell ⟨g, 2, none⟩ v2).setCell ⟨g, 3, none⟩ v3) := by
  have h1 := (((hB.set_ 0 v0).set_ 1 v1).set_ 2 v2).set_ 3 v3
  simp only [List.set_cons_succ, List.set_cons_zero] at h1
  refine bodyPost_ret (results_cell_row hf _ _ g _ _ (0, 0) _ hp h1 Try.underlying38 rfl (by kernel_rfl)) rfl ?_
  exact ⟨by rw [← he], bel_on1 hb (((((Only.refl [g] w1).setCell (.inl (by simp)) _).setCell (.inl (by simp)) _).setCell (.inl (by simp)) _).setCell (.inl (by simp)) _) hg⟩
theorem ofL_nil : ofL [] = ⟨#[]⟩ := rfl
theorem pt {p q : List UInt8} (h : p = q) : ((ofL p).toList == q) = true := by rw [str_eq']; exact decide_eq_true h
theorem pf {p q : List UInt8} (h : ¬ p = q) : ((ofL p).toList == q) = false := by rw [str_eq']; exact decide_eq_false h
theorem ct {c k : UInt8} (h : c = k) (m : Int) (hm : (k.toNat : Int) = m) : ((c.toNat : Int) == m) = true := by subst h; rw [hm]; exact beq_self_eq_true m
theorem cf {c k : UInt8} (h : ¬ c = k) (m : Int) (hm : (k.toNat : Int) = m) : ((c.toNat : Int) == m) = false := by
  rw [beq_eq_false_iff_ne, ← hm]
  intro e
  exact h ((u8_iff c k).2 e)
theorem bf {b : Bool} (h : ¬ b = true) : b = false := by simpa using h
/-- The end: the result lies in the block before the newest. -/
theorem st_mid {f : Func} {k g : Nat} {tmps : Array Value} {w w1 : World} {o : Obj} {v0 v1 v2 v3 : Value} {v : Value} (hf : f.results = #[.cell k 38]) (hp : tmps.getD k undef = .pointer (some ⟨g, 0, none⟩)) (hg : g = w1.heap.size)
    (he : Value.agg #[v0, v1, v2, v3] = v) (hb : Bel w ((w1.alloc (.cells #[v0, v1, v2, v3] 38)).alloc o)) : bodyPost Try.prog f (SvV v w) .ret { tmps := tmps, defers := [] } ((w1.alloc (.cells #[v0, v1, v2, v3] 38)).alloc o) := by
  subst hg
  refine bodyPost_ret (results_cell_row hf _ _ w1.heap.size _ _ (0, 0) _ hp ((Blk.new w1 38 [v0, v1, v2, v3]).alloc o) Try.underlying38 rfl (by kernel_rfl)) rfl ?_
  exact ⟨by rw [← he], hb⟩

/-! ### Drawn regions of which some operations write to what was made within them -/
section
variable {P : Program} {ops : Array Oper} {Q : Exit → Act → World → Prop} {S : World → Prop}
theorem reg_call (e : Nat) {listed : Array Bool} {fuel : Nat} {a : Act} {w : World} {o : Oper} {f : FuncId} {args : Array Value} (hr : Region.ready .any ops listed = [e])
    (ho : ops[e]? = some o) (hw : Region.wanted o (yielded ops a.tmps) = true) (hrun : (execOp a.eval o).run P w = .ok (.enter f args) w)
    (hc : Calls P f args w fun x w1 => ∃ v, x = .returned v ∧ S w1 ∧ wpAnyH P .any ops Q S fuel (listed.setIfInBounds e true) (a.put o.dst v) w1) : wpAnyH P .any ops Q S (fuel + 1) listed a w := by
  refine wpAnyH_all hr (by simp) (fun i hi => ?_)
  simp only [List.mem_singleton] at hi
  subst hi
  unfold wpOp
  simp only [ho, hw, if_true]
  refine .inl ?_
  unfold Oper.wp
  rw [hrun]
  simp only [Oper.upon]
  refine hc.mono ?_
  rintro x w1 ⟨v, rfl, hO, h⟩
  exact ⟨hO, h⟩
theorem op_call0 {e : Nat} {listed : Array Bool} {fuel : Nat} {a : Act} {w : World} {o : Oper} {f : FuncId} {args : Array Value}
    (ho : ops[e]? = some o) (hw : Region.wanted o (yielded ops a.tmps) = true) (hrun : (execOp a.eval o).run P w = .ok (.enter f args) w)
    (hc : Calls P f args w fun x w1 => ∃ v, x = .returned v ∧ S w1 ∧ wpAnyH P .any ops Q S fuel (listed.setIfInBounds e true) (a.put o.dst v) w1) :
    wpOp P ops Q e (fun a' w' => S w' ∧ wpAnyH P .any ops Q S fuel (listed.setIfInBounds e true) a' w') a w := by
  unfold wpOp
  simp only [ho, hw, if_true]
  refine .inl ?_
  unfold Oper.wp
  rw [hrun]
  simp only [Oper.upon]
  refine hc.mono ?_
  rintro x w1 ⟨v, rfl, hO, h⟩
  exact ⟨hO, h⟩
theorem op_make0 {e : Nat} {listed : Array Bool} {fuel : Nat} {a : Act} {w w1 : World} {o : Oper} {v : Value}
    (ho : ops[e]? = some o) (hw : Region.wanted o (yielded ops a.tmps) = true) (hrun : (execOp a.eval o).run P w = .ok (.value v) w1) (hO : S w1)
    (h : wpAnyH P .any ops Q S fuel (listed.setIfInBounds e true) (a.put o.dst v) w1) :
    wpOp P ops Q e (fun a' w' => S w' ∧ wpAnyH P .any ops Q S fuel (listed.setIfInBounds e true) a' w') a w := by
  unfold wpOp
  simp only [ho, hw, if_true]
  refine .inl ?_
  unfold Oper.wp
  rw [hrun]
  simp only [Oper.upon]
  exact ⟨hO, h⟩
theorem reg_make (e : Nat) {listed : Array Bool} {fuel : Nat} {a : Act} {w w1 : World} {o : Oper} {v : Value} (hr : Region.ready .any ops listed = [e])
    (ho : ops[e]? = some o) (hw : Region.wanted o (yielded ops a.tmps) = true) (hrun : (execOp a.eval o).run P w = .ok (.value v) w1) (hO : S w1)
    (h : wpAnyH P .any ops Q S fuel (listed.setIfInBounds e true) (a.put o.dst v) w1) : wpAnyH P .any ops Q S (fuel + 1) listed a w := by
  refine wpAnyH_all hr (by simp) (fun i hi => ?_)
  simp only [List.mem_singleton] at hi
  subst hi
  exact op_make0 ho hw hrun hO h
theorem reg_store (e : Nat) {listed : Array Bool} {fuel : Nat} {a : Act} {w w1 : World} {o : Oper} (hr : Region.ready .any ops listed = [e])
    (ho : ops[e]? = some o) (hw : Region.wanted o (yielded ops a.tmps) = true) (hrun : (execOp a.eval o).run P w = .ok .skip w1) (hO : S w1)
    (h : wpAnyH P .any ops Q S fuel (listed.setIfInBounds e true) (a.put o.dst undef) w1) : wpAnyH P .any ops Q S (fuel + 1) listed a w := by
  refine wpAnyH_all hr (by simp) (fun i hi => ?_)
  simp only [List.mem_singleton] at hi
  subst hi
  unfold wpOp
  simp only [ho, hw, if_true]
  refine .inl ?_
  unfold Oper.wp
  rw [hrun]
  simp only [Oper.upon]
  exact ⟨hO, h⟩
theorem reg_seg {T : List Nat} {w0 : World} (m : List Bool) {listed : Array Bool} {fuel : Nat} (fuel' : Nat) {a : Act} {w : World} {l : List Oper} (hS : Only T w0 w) (hs : Region.noSelect l.toArray = true) (hm : (decide (m.length ≤ l.length)) = true)
    (hok : segOk l.toArray (places 0 m) listed = true)
    (hf : fuel' + (places 0 m).length = fuel) (hQ : ∀ c (a : Act) d v w, Q (.panic c) (a.put d v) w → Q (.panic c) a w)
    (h : wpMask P l.toArray (fun w' => ∃ x : Later T w0, w' = x.w) (fun b => wpAnyH P .any l.toArray Q (Only T w0) fuel' (marked listed (places 0 m)) b w) m l a) : wpAnyH P .any l.toArray Q (Only T w0) fuel listed a w := by
  subst hf
  refine take_list (fun w' h' => ⟨⟨w', h'⟩, rfl⟩) hs hQ (places 0 m) fuel' listed a w hok hS (wpSeg_of_mask m l 0 a (fun j => by simp) ?_ h)
  have := of_decide_eq_true hm
  simpa using this
end
end Go.Proofs.Yteclclidibmajaa

namespace Go.Proofs.Yteclclidibmajaa
open Go.RowKit Go.BigFrame
set_option linter.unusedVariables false
set_option linter.unusedSimpArgs false
set_option maxRecDepth 100000

/-- 'textS' in the words of a walk. -/
theorem textS_w (p : List UInt8) (c : UInt8) : textS p c =
    if ((ofL p).toList == [60]) = true then
      if ltrB c = true then ⟨2, addL [] c, [], []⟩
      else if ((c.toNat : Int) == 47) = true ∨ ((c.toNat : Int) == 33) = true then ⟨0, [], [], [60, c]⟩
      else if ((c.toNat : Int) == 60) = true then ⟨0, [], [], [60]⟩ else s0 0
    else if ((ofL p).toList == [60, 47]) = true then
      if ltrB c = true then s0 15
      else if ((c.toNat : Int) == 60) = true then ⟨0, [], [], [60]⟩ else s0 0
    else if ((ofL p).toList == [60, 33]) = true then
      if ((c.toNat : Int) == 45) = true then ⟨0, [], [], [60, 33, 45]⟩ else if ((c.toNat : Int) == 62) = true then s0 0 else s0 14
    else if ((ofL p).toList == [60, 33, 45]) = true then
      if ((c.toNat : Int) == 45) = true then s0 13 else if ((c.toNat : Int) == 62) = true then s0 0 else s0 14
    else if ((c.toNat : Int) == 60) = true then ⟨0, [], [], [60]⟩ else s0 0 := by
  have hc : ∀ k : UInt8, c = k ↔ ((c.toNat : Int) == (k.toNat : Int)) = true := fun k => by rw [u8_iff, beq_iff_eq]
  have h47 : c = 47 ↔ ((c.toNat : Int) == 47) = true := hc 47
  have h33 : c = 33 ↔ ((c.toNat : Int) == 33) = true := hc 33
  have h45 : c = 45 ↔ ((c.toNat : Int) == 45) = true := hc 45
  have h60 : c = 60 ↔ ((c.toNat : Int) == 60) = true := hc 60
  have h62 : c = 62 ↔ ((c.toNat : Int) == 62) = true := hc 62
  simp only [ofL_list, beq_iff_eq (a := p)]
  unfold textS
  simp only [← h47, ← h33, ← h45, ← h60, ← h62]
theorem cat60 (c : UInt8) : Value.agg #[.int .i64 0, .string ⟨#[]⟩, .string ⟨#[]⟩, .string (⟨#[60]⟩ ++ ⟨#[c]⟩)] = HS.val ⟨0, [], [], [60, c]⟩ := by
  rw [show (⟨#[60]⟩ ++ ⟨#[c]⟩ : ByteArray) = ofL ([60] ++ [c]) from ofL_snoc [60] c]
  rfl
set_option maxRecDepth 100000 in
set_option maxHeartbeats 3200000 in
theorem rtext_c (k : Int) (n a : ByteArray) (p : List UInt8) (c : UInt8) (w : World) : Calls Try.prog 34 #[stV k n a (ofL p), .int .u8 c.toNat] w (SvP (textS p c) w) := by
  unfold stV
  have HZ0 := Lib.hid (blk_at1h w (.cells #[.int .i64 k, .string n, .string a, .string (ofL p)] 38) 38 [.int .i64 0, .string ⟨#[]⟩, .string ⟨#[]⟩, .string ⟨#[]⟩])
  have HB0 := Lib.hid ((Bel.alloc w (.cells #[.int .i64 k, .string n, .string a, .string (ofL p)] 38)).trans (Bel.alloc (w.alloc (.cells #[.int .i64 k, .string n, .string a, .string (ofL p)] 38)) (.cells #[.int .i64 0, .string ⟨#[]⟩, .string ⟨#[]⟩, .string ⟨#[]⟩] 38)))
  have HAD := Lib.hid (fun W => radd_c [] c W (by simp))
  rw [ofL_nil] at HAD
  have hoc := one_str c ((w.alloc (.cells #[.int .i64 k, .string n, .string a, .string (ofL p)] 38)).alloc (.cells #[.int .i64 0, .string ⟨#[]⟩, .string ⟨#[]⟩, .string ⟨#[]⟩] 38))
  have ho47 := one_str 47 ((w.alloc (.cells #[.int .i64 k, .string n, .string a, .string (ofL p)] 38)).alloc (.cells #[.int .i64 0, .string ⟨#[]⟩, .string ⟨#[]⟩, .string ⟨#[]⟩] 38))
  rw [show (((w.alloc (.cells #[.int .i64 k, .string n, .string a, .string (ofL p)] 38)).alloc (.cells #[.int .i64 0, .string ⟨#[]⟩, .string ⟨#[]⟩, .string ⟨#[]⟩] 38))).heap.size = w.heap.size + 1 + 1 by simp] at hoc ho47
  rw [show ((47 : UInt8).toNat : Int) = 47 from rfl] at ho47
  go_enter Try.func34, Try.ntmps34
  go_wp2_with (first
    | (go_at_call 61; ((with_reducible refine (rletter_c c _).mono ?_); rintro e w1 ⟨rfl, rfl⟩))
    | (go_at_call 62; ((with_reducible refine (HAD.out _).mono ?_); rintro e w2 ⟨rfl, hb⟩; have HB2 := Lib.hid (HB0.out.trans hb); have HZ2 := Lib.hid (HZ0.out.belh hb); obtain ⟨z0, z1, z2, z3⟩ := cells4 HZ2.out; obtain ⟨f0, f1, f2, f3⟩ := frees4 HZ2.out; clear hb)))
  all_goals first
    | ((with_reducible apply st_new (k := 4) (g := w.heap.size + 1)); (case hf => rfl); (case hp => rfl); (case hg => simp); (case hb => exact (Bel.alloc _ _).trans (Bel.alloc _ _)))
    | ((with_reducible apply st_mid (k := 4) (g := w.heap.size + 1)); (case hf => rfl); (case hp => rfl); (case hg => simp); (case hb => exact ((Bel.alloc _ _).trans (Bel.alloc _ _)).trans (Bel.alloc _ _)))
    | ((with_reducible apply st_set (k := 4) (g := w.heap.size + 1) (hB := HZ2.out) (hb := HB2.out)); (case hf => rfl); (case hp => rfl); (case hg => omega))
  all_goals rw [textS_w]
  all_goals first
    | (simp only [*, if_true, if_false, Bool.false_eq_true, or_self]; rfl)
    | (simp only [*, if_true, if_false, Bool.false_eq_true, or_self, false_or, or_false]; exact cat60 c)
    | (have e47 := (u8_iff c 47).2 ‹_›; subst e47; simp only [*, if_true, if_false, Bool.false_eq_true, or_self]; exact cat60 47)
    | trace_state
end Go.Proofs.Yteclclidibmajaa

namespace Go.Proofs.Yteclclidibmajaa
open Go.RowKit Go.BigFrame
set_option linter.unusedVariables false
set_option linter.unusedSimpArgs false
set_option maxRecDepth 100000

theorem ext_take (a : List UInt8) (k : Nat) : ((ofL a).extract 0 k).toList = a.take k := by
  rw [ByteArray.toList_eq, ByteArray.data_extract]
  simp [ofL]
theorem quotedC_w (a : List UInt8) (c : UInt8) : ((quotedC a c : Nat) : Int) =
    (if (((ofL a).extract 0 2).toList == [111, 110]) = true then 11
      else if ((ofL a).toList == [104, 114, 101, 102]) = true ∨ ((ofL a).toList == [115, 114, 99]) = true ∨ ((ofL a).toList == [97, 99, 116, 105, 111, 110]) = true ∨ ((ofL a).toList == [102, 111, 114, 109, 97, 99, 116, 105, 111, 110]) = true then 9
      else if ((ofL a).toList == [115, 116, 121, 108, 101]) = true ∨ ((ofL a).toList == [115, 114, 99, 100, 111, 99]) = true then 11 else 7) + (if ((c.toNat : Int) == 39) = true then 1 else 0) := by
  have h39 : c = 39 ↔ ((c.toNat : Int) == 39) = true := by rw [u8_iff, beq_iff_eq]; rfl
  simp only [ofL_list, ext_take, beq_iff_eq (a := a), beq_iff_eq (a := a.take 2), ← h39]
  unfold quotedC rawA urlA
  simp only [Bool.or_eq_true, decide_eq_true_eq]
  by_cases h1 : a.take 2 = [111, 110]
  · simp only [h1, or_true, if_true]
    split <;> rfl
  · simp only [h1, or_false, if_false]
    by_cases h2 : a = [115, 116, 121, 108, 101] ∨ a = [115, 114, 99, 100, 111, 99]
    · have : ¬ (a = [104, 114, 101, 102] ∨ a = [115, 114, 99] ∨ a = [97, 99, 116, 105, 111, 110] ∨ a = [102, 111, 114, 109, 97, 99, 116, 105, 111, 110]) := by
        rcases h2 with rfl | rfl <;> decide
      rw [if_pos h2, if_neg this, if_pos h2]
      split <;> rfl
    · rw [if_neg h2, if_neg h2]
      split <;> split <;> rfl
theorem short_on {a : List UInt8} (h : (a.length : Int) < 2) : (((ofL a).extract 0 2).toList == [111, 110]) = false := by
  rw [ext_take, beq_eq_false_iff_ne]
  intro e
  have := congrArg List.length e
  rw [List.length_take] at this
  simp at this
  omega
set_option maxRecDepth 100000 in
set_option maxHeartbeats 3200000 in
theorem rquoted_c (a : List UInt8) (c : UInt8) (w : World) (ha : a.length ≤ 100000) : Calls Try.prog 65 #[.string (ofL a), .int .u8 c.toNat] w fun e w' => e = .returned (.int .i64 (quotedC a c : Nat)) ∧ w' = w := by
  have hz : (ofL a).size = a.length := rfl
  go_enter Try.func65, Try.ntmps65
  go_wp2_with fail
  all_goals go_ret
  all_goals refine ⟨?_, rfl⟩
  all_goals rw [quotedC_w]
  all_goals first
    | (rw [short_on ‹_›]; simp only [*, if_true, if_false, Bool.false_eq_true, true_or, or_true, or_self]; rfl)
    | (simp only [*, if_true, if_false, Bool.false_eq_true, true_or, or_true, or_self]; rfl)
    | (exfalso; simp_all; done)
    | trace_state
/-- 'escS' in the words of a walk. -/
theorem escS_w (s : HS) : escS s =
    if (!(ofL s.p).toList.isEmpty) = true then (0, false)
    else if ((s.c : Int) == 0) = true then (0, true)
    else if ((s.c : Int) == 7) = true ∨ ((s.c : Int) == 8) = true then (1, true)
    else if ((s.c : Int) == 9) = true ∨ ((s.c : Int) == 10) = true then (2, true)
    else if ((s.c : Int) == 17) = true ∨ ((s.c : Int) == 18) = true then (3, true)
    else if ((s.c : Int) == 20) = true ∨ ((s.c : Int) == 21) = true then (4, true)
    else (0, false) := by
  have hk : ∀ j : Nat, ((s.c : Int) == (j : Int)) = true ↔ s.c = j := fun j => by rw [beq_iff_eq]; omega
  have h0 : ((s.c : Int) == 0) = true ↔ s.c = 0 := hk 0
  have h7 : ((s.c : Int) == 7) = true ↔ s.c = 7 := hk 7
  have h8 : ((s.c : Int) == 8) = true ↔ s.c = 8 := hk 8
  have h9 : ((s.c : Int) == 9) = true ↔ s.c = 9 := hk 9
  have h10 : ((s.c : Int) == 10) = true ↔ s.c = 10 := hk 10
  have h17 : ((s.c : Int) == 17) = true ↔ s.c = 17 := hk 17
  have h18 : ((s.c : Int) == 18) = true ↔ s.c = 18 := hk 18
  have h20 : ((s.c : Int) == 20) = true ↔ s.c = 20 := hk 20
  have h21 : ((s.c : Int) == 21) = true ↔ s.c = 21 := hk 21
  have hp : (!(ofL s.p).toList.isEmpty) = true ↔ s.p ≠ [] := by rw [ofL_list]; cases s.p <;> simp
  simp only [h0, h7, h8, h9, h10, h17, h18, h20, h21, hp]
  rfl
set_option maxRecDepth 100000 in
set_option maxHeartbeats 3200000 in
theorem resc_c (s : HS) (w : World) : Calls Try.prog 33 #[s.val] w fun e w' => e = .returned (.tuple #[.int .i64 (escS s).1, .bool (escS s).2]) ∧ Bel w w' := by
  rw [escS_w]
  unfold HS.val
  obtain ⟨k, hk⟩ : ∃ q, q = (s.c : Int) := ⟨_, rfl⟩
  rw [← hk]
  generalize s.p = p
  generalize ofL s.n = n
  generalize ofL s.a = a
  clear hk
  unfold stV
  go_enter Try.func33, Try.ntmps33
  go_wp2_with fail
  all_goals go_ret2
  all_goals refine ⟨?_, Bel.alloc _ _⟩
  all_goals first
    | (simp only [*, if_true, if_false, Bool.false_eq_true, true_or, or_true, or_self]; rfl)
    | (exfalso; simp_all; done)
    | trace_state
end Go.Proofs.Yteclclidibmajaa
