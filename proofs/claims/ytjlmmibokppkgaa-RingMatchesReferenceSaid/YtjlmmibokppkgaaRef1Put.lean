/-
  The reference ring's Put.
-/
import Derived.Test.YtjlmmibokppkgaaRef1
namespace Go.Proofs.Ytjlmmibokppkgaa
open Go.RowKit Go.BigFrame
set_option linter.unusedVariables false
set_option linter.unusedSimpArgs false
attribute [local go_sem ↓] sliced_cut run_min2 run_max2
attribute [local go_sem] cutA_zero

/-- Blocks that were not there at the start need not be named. -/
theorem Only.shed {S T : List Nat} {w w' : World} (h : Only T w w') (hT : ∀ i, i ∈ T → i ∈ S ∨ w.heap.size ≤ i) : Only S w w' := (Only.refl S w).join h hT

section
variable {P : Program} {ops : Array Oper} {Q : Exit → Act → World → Prop}
/-- One of several that may come up: it makes a value. -/
theorem op_make {T : List Nat} {e : Nat} {listed : Array Bool} {fuel : Nat} {a : Act} {w w1 : World} {o : Oper} {v : Value}
    (ho : ops[e]? = some o) (hw : Region.wanted o (yielded ops a.tmps) = true) (hrun : (execOp a.eval o).run P w = .ok (.value v) w1) (hO : Only T w w1)
    (h : wpAnyH P .any ops Q (Only T w1) fuel (listed.setIfInBounds e true) (a.put o.dst v) w1) :
    wpOp P ops Q e (fun a' w' => Only T w w' ∧ wpAnyH P .any ops Q (Only T w) fuel (listed.setIfInBounds e true) a' w') a w := by
  unfold wpOp
  simp only [ho, hw, if_true]
  refine .inl ?_
  unfold Oper.wp
  rw [hrun]
  simp only [Oper.upon]
  exact ⟨hO, wpAnyH_mono (fun w2 h2 => hO.trans h2) _ _ _ _ h⟩
theorem exec_append {w w' : World} {s x : Operand} {t : TypeId} {o : Oper} {a : Act} {v v' : Value} {A : Option Addr} {m c : Nat} (ho : o.op = .call { callee := .builtin .append, args := #[s, x], argTypes := #[t, t] })
    (hs : a.eval s = v) (hx : a.eval x = .slice A m c) (hrun : (Builtin.append_ #[t, t] o.type #[v, .slice A m c]).run P w = .ok v' w') : (execOp a.eval o).run P w = .ok (.value v') w' := by
  unfold execOp
  simp only [ho, resolve, invoke, builtin, Sem.run_bind, Sem.run_pure, Result.andThen_ok, List.map_toArray, List.map_cons, List.map_nil, hs, hx, hrun]
/-- An append within a region, nothing else may come up. -/
theorem region_append {T : List Nat} (e : Nat) {listed : Array Bool} {fuel : Nat} {a : Act} {w : World} {o : Oper} (hr : Region.ready .any ops listed = [e])
    (ho : ops[e]? = some o) (hw : Region.wanted o (yielded ops a.tmps) = true) (s x : Operand) (t : TypeId) (hop : o.op = .call { callee := .builtin .append, args := #[s, x], argTypes := #[t, t] })
    (base : Nat) (et : TypeId) (i : TypeInfo) (z : Value) (bytes : Nat) (ht : P.underlying t = some (.slice et)) (hi : P.info? et = some i) (hz : i.zero = some z)
    (hsize : i.size = 1) (hby : i.bytes = bytes) (hzs : z.cells.size = 1) (v : Value) (n : Nat) (xs : List Value) (hs : a.eval s = v) (hown : w.ownsRow base et 1 v n xs)
    (B : Nat) (A : Option Addr) (m c : Nat) (news : List Value) (hx : a.eval x = .slice A m c) (hrd : Reads w B A m news) (h1 : ∀ u ∈ news, u.oneCell' = true)
    (h63 : n + m ≤ maxLen) (hbytes : (n + m) * bytes ≤ 140737488355328) (hbase : base ≤ w.heap.size) (N : Nat) (hN : N = n + m) (hT : ∀ g, v.ownBlock = some g → g ∈ T)
    (h : ∀ A' c' w', Hid (w'.ownsRow base et 1 (.slice A' N c') N (xs ++ news)) → w.grownBy w' v.ownBlock → Hid ((Value.slice A' N c').ownBlock = v.ownBlock ∨ (Value.slice A' N c').ownBlock = some w.heap.size) → Only T w w' →
      wpAnyH P .any ops Q (Only T w') fuel (listed.setIfInBounds e true) (a.put o.dst (.slice A' N c')) w') :
    wpAnyH P .any ops Q (Only T w) (fuel + 1) listed a w := by
  subst hN
  obtain ⟨v', w', hrun, h2, h3, h4⟩ := run_append (P := P) o.type ht hi hz hsize hby hzs hown c hrd h1 h63 hbytes hbase
  obtain ⟨A', c', rfl, _⟩ := Reads.of_own h2
  have hO : Only T w w' := (Only.refl T w).grown h3 (fun k hk => .inl (hT k hk))
  exact region_make e hr ho hw (exec_append hop hs hx hrun) hO (h A' c' w' h2 h3 h4 hO)
end

set_option maxRecDepth 100000 in
set_option maxHeartbeats 1000000 in
theorem ref_put {w : World} {lo mr N : Nat} {c : List UInt8} (h : RefAt w lo mr N c) (hlen : c.length ≤ N) (hN : N ≤ 65536) {A : Option Addr} {m cap B : Nat} {b : List UInt8}
    (hb : Reads w B A m (vbs b)) (hB : B ≤ mr) (hmc : m ≤ cap) (hcm : cap ≤ maxLen) (k : Nat) (hk : k = min m (N - c.length)) (hlo : lo ≤ w.heap.size) (hmr : mr < w.heap.size) :
    Calls Try.prog 19 #[.pointer (some ⟨mr, 0, none⟩), .slice A m cap] w fun e w' => e = .returned (.int .i64 (k : Int)) ∧ RefAt w' lo mr N (c ++ b.take k) ∧ Only [mr] w w' := by
  obtain ⟨C, cc, hbk, hcc, hccm, hr, hC⟩ := h
  obtain ⟨i0, hi, hz0, hz1, hz2⟩ := info_parts info_byte
  have c0 : w.cell? ⟨mr, 0, none⟩ = some (.slice C c.length cc) := hbk.cell 0
  have c1 : w.cell? ⟨mr, 1, none⟩ = some (.int .i64 N) := hbk.cell 1
  obtain ⟨f, hf⟩ : ∃ f, f + c.length = N := ⟨N - c.length, by omega⟩
  have hs1 : IntKind.i64.wrap ((N : Int) - (c.length : Int)) = (f : Int) := by rw [IntWalk.i64_in _ (by omega)]; omega
  unfold maxLen at hcm
  have h3 : ((m : Int) < (f : Int) ∧ k = m) ∨ ((f : Int) ≤ (m : Int) ∧ k = f) := by omega
  have HK := Lib.hid hk
  have HF := Lib.hid hf
  have hkm : k ≤ m := by omega
  have hkc : c.length + k ≤ 65536 := by omega
  clear hk hf
  rcases h3 with ⟨h1, rfl⟩ | ⟨h1, rfl⟩
  all_goals
    go_enter Try.func19, Try.ntmps19
    go_wp2_with fail
    go_quiet (fail)
    clear hs1 c0 c1
    go_wp2_with fail
    refine region_begin (T := [w.heap.size, w.heap.size + 1, mr]) (by kernel_rfl) ?_
    have hO0 : Only [] w (w.drewN nq).drew := ((Only.refl [] w).drewN nq).drew
    have hsz : (w.drewN nq).drew.heap.size = w.heap.size := rfl
    have hbk0 := hbk.only hO0 (by simp)
    have hr0 := hr.only' hO0 (Nat.le_refl _) (by simp)
    have hb0 := hb.only' hO0 (by omega) (by simp)
    generalize (w.drewN nq).drew = W at hO0 hsz hbk0 hr0 hb0 ⊢
    have c0 : W.cell? ⟨mr, 0, none⟩ = some (.slice C c.length cc) := hbk0.cell 0
    have c0' : (W.alloc (.cells #[] 5)).cell? ⟨mr, 0, none⟩ = some (.slice C c.length cc) := (hbk0.alloc _).cell 0
    refine region_seg [true, false, true, true, true, false, false, true, true, true] 7 (by kernel_rfl) (by kernel_rfl) (by kernel_rfl) rfl (fun _ _ d _ _ h => by cases d <;> exact h) ?_
    repeat (first | with_reducible refine wpMask_pass ?_ | (refine wpMask_want (by rfl) (fun K hK => ?_); go_big_quiet_op; refine hK _ ?_; clear hK K))
    with_reducible refine wpMask_nil ?_
    refine wpAnyH_all (rs := [1, 5]) (by kernel_rfl) (by simp) (fun i hi => ?_)
    simp only [List.mem_cons, List.not_mem_nil, or_false] at hi
    rcases hi with rfl | rfl
    refine op_make (v := .slice (some ⟨W.heap.size, 0, none⟩) 0 0) (w1 := W.alloc (.cells #[] 5)) rfl (by rfl) (by go_simp) ((Only.refl _ _).alloc _) ?_
    simp only [List.getElem_toArray, List.getElem_cons_zero, List.getElem_cons_succ, Act.put, List.setIfInBounds_toArray, List.set_cons_zero, List.set_cons_succ]
    refine region_make 5 (v := .slice C c.length cc) (w1 := W.alloc (.cells #[] 5)) (by kernel_rfl) rfl (by rfl) (by go_simp) (Only.refl _ _) ?_
    simp only [List.getElem_toArray, List.getElem_cons_zero, List.getElem_cons_succ, Act.put, List.setIfInBounds_toArray, List.set_cons_zero, List.set_cons_succ]
    rotate_left
    refine op_make (v := .slice C c.length cc) (w1 := W) rfl (by rfl) (by go_simp) (Only.refl _ _) ?_
    simp only [List.getElem_toArray, List.getElem_cons_zero, List.getElem_cons_succ, Act.put, List.setIfInBounds_toArray, List.set_cons_zero, List.set_cons_succ]
    refine region_make 1 (v := .slice (some ⟨W.heap.size, 0, none⟩) 0 0) (w1 := W.alloc (.cells #[] 5)) (by kernel_rfl) rfl (by rfl) (by go_simp) ((Only.refl _ _).alloc _) ?_
    simp only [List.getElem_toArray, List.getElem_cons_zero, List.getElem_cons_succ, Act.put, List.setIfInBounds_toArray, List.set_cons_zero, List.set_cons_succ]
    rotate_left
    all_goals
      have hsz1 : (W.alloc (.cells #[] 5)).heap.size = W.heap.size + 1 := by simp
      have hO1 : Only [] W (W.alloc (.cells #[] 5)) := (Only.refl [] W).alloc _
      have hrd1 := hr0.only' hO1 (by omega) (by simp)
      refine region_append 6 (by kernel_rfl) rfl (by rfl) (.tmp 23) (.tmp 27) 25 rfl W.heap.size 5 i0 _ 1 Try.underlying25 hi hz0 hz1 hz2 rfl (.slice (some ⟨W.heap.size, 0, none⟩) 0 0) 0 [] rfl (empty_own W) w.heap.size C c.length cc (vbs c) rfl hrd1 (vbs_one _) (by unfold maxLen; omega) (by omega) (by omega) c.length (by omega) (fun g hg => by simp [Value.ownBlock] at hg; simp; omega) ?_
      intro A1 c1 w1 HV1 hG1 HG1 hT1
      simp only [List.getElem_toArray, List.getElem_cons_zero, List.getElem_cons_succ, Act.put, List.setIfInBounds_toArray, List.set_cons_zero, List.set_cons_succ]
      have hbk1 := (hbk0.alloc (.cells #[] 5)).grown hG1 (by simp [Value.ownBlock]; omega)
      have hv1 := HV1.out
      rw [List.nil_append] at hv1
      have hOw : Only [] W w1 := hO1.grown hG1 (fun k hk => .inr (by simp [Value.ownBlock] at hk; omega))
      have hw1 := hOw.size
      have hrd2 : Reads w1 B A k (vbs (b.take k)) := by
        have h1 := (hb0.only' hOw (by omega) (by simp)).cut_ (k := 0) (m := k) (c := cap) (by omega) hkm hmc
        rwa [cutA_zero, List.drop_zero, Nat.sub_zero, ← vbs_take] at h1
      refine region_append 10 (by kernel_rfl) rfl (by rfl) (.tmp 28) (.tmp 31) 25 rfl W.heap.size 5 i0 _ 1 Try.underlying25 hi hz0 hz1 hz2 rfl (.slice A1 c.length c1) c.length (vbs c) rfl hv1 B A k cap (vbs (b.take k)) rfl hrd2 (vbs_one _) (by unfold maxLen; omega) (by omega) (by omega) (c.length + k) rfl (fun g hg => by
        have := HG1.out
        rw [hg] at this
        simp [Value.ownBlock] at this
        simp
        omega) ?_
      intro A2 c2 w2 HV2 hG2 HG2 hT2
      simp only [List.getElem_toArray, List.getElem_cons_zero, List.getElem_cons_succ, Act.put, List.setIfInBounds_toArray, List.set_cons_zero, List.set_cons_succ]
      have hb2 : ∀ g, (Value.slice A1 c.length c1).ownBlock = some g → W.heap.size ≤ g := fun g hg => (hv1.lt g hg).1
      have hbk2 := hbk1.grown hG2 (fun e => by have := hb2 mr e.symm; omega)
      have hO2 : Only [] W w2 := hOw.grown hG2 (fun g hg => .inr (hb2 g hg))
      have f2 := hbk2.free 0
      have c2' := hbk2.cell 0
      refine region_seg [false, false, false, false, false, false, false, false, false, false, false, true, true] 1 (by kernel_rfl) (by kernel_rfl) (by kernel_rfl) rfl (fun _ _ d _ _ h => by cases d <;> exact h) ?_
      repeat (first | with_reducible refine wpMask_pass ?_ | (refine wpMask_want (by rfl) (fun K hK => ?_); go_big_quiet_op; refine hK _ ?_; clear hK K))
      with_reducible refine wpMask_nil ?_
      refine region_store 13 (w1 := w2.setCell ⟨mr, 0, none⟩ (.slice A2 (c.length + k) c2)) (by kernel_rfl) rfl (by rfl) (by go_simp) ((Only.refl _ _).setCell (.inl (by simp)) _) ?_
      refine region_end (by kernel_rfl) ?_
      go_wp2
      go_ret
      have hv := HV2.out
      obtain ⟨A2', c2'', hve, hmc2, hcm2, hrd, hA2, hn2⟩ := Reads.of_own hv
      injection hve with e1 e2 e3
      subst e1
      subst e3
      have hkl : (b.take k).length = k := by have := hrd2.1; rwa [vbs_length] at this
      have hcl : (c ++ b.take k).length = c.length + k := by rw [List.length_append, hkl]
      refine ⟨rfl, ⟨A2, c2, ?_, by rw [hcl]; exact hmc2, hcm2, ?_, ?_⟩, ?_⟩
      · have := hbk2.set_ 0 (.slice A2 (c.length + k) c2)
        rw [hcl]
        simpa using this
      · rw [hcl, vbs_append]
        have h1 := hrd.only' (w' := w2.setCell ⟨mr, 0, none⟩ (.slice A2 (c.length + k) c2)) ((Only.refl [mr] w2).setCell (.inl (by simp)) _) (Nat.le_refl _) (fun h0 ad e => by have := (hA2 ad e).2.1; simp; omega)
        exact h1.more (by simp [World.setCell])
      · intro h0 ad e
        have := (hA2 ad e).2.1
        omega
      · exact ((hO0.trans hO2).more (by simp)).setCell (.inl (by simp)) _

end Go.Proofs.Ytjlmmibokppkgaa
