/-
  The program of layer 17: node for a Print and a Call.
-/
import Derived.Test.YtpcapmdfjmpdiaaGreatDoorZPc17
namespace Go.Proofs.YtpcapmdfjmpdiaaGreatDoor
open Go.RowKit Go.BigFrame NT
set_option linter.unusedVariables false
set_option linter.unusedSimpArgs false
set_option maxRecDepth 100000
attribute [local go_sem ↓] sliced_cut

/-- An escaper is taken. -/
theorem As.took {Q : Nat → Prop} {rr : Nat} {w : World} {v : AV} (h : As Q rr w v) (h1 : 1 ≤ v.es.length) :
    Ev17 Q rr w v (w.setCell ⟨rr, 1, none⟩ (.slice (cutA v.ce 1 1 v.E) (v.es.length - 1) (v.ce - 1))) { v with E := cutA v.ce 1 1 v.E, es := v.es.tail, ce := v.ce - 1 } := by
  have hO : Only [rr] w (w.setCell ⟨rr, 1, none⟩ (.slice (cutA v.ce 1 1 v.E) (v.es.length - 1) (v.ce - 1))) := (Only.refl _ _).setCell (.inl (by simp)) _
  have hl : v.es.tail.length = v.es.length - 1 := List.length_tail
  refine ⟨⟨?_, ?_, ?_, ?_, fun g hg => ⟨by have := hO.size; have := (h.fr g hg).1; omega, (h.fr g hg).2⟩⟩, hO.more (fun k hk => by rw [List.mem_singleton] at hk; simp [hk]), fun k hk => .inl hk, fun k hk => .inl hk⟩
  · show Blk _ rr _ [_, .slice (cutA v.ce 1 1 v.E) v.es.tail.length (v.ce - 1), _, _]
    rw [hl]
    exact h.blk.set_ 1 (.slice (cutA v.ce 1 1 v.E) (v.es.length - 1) (v.ce - 1))
  · exact h.code.only hO (fun k hk hm => by rw [List.mem_singleton] at hm; subst hm; exact h.ne_ra hk)
  · show RowAt _ _ (cutA v.ce 1 1 v.E) v.es.tail.length (v.ce - 1) (vin17 v.es.tail)
    rw [hl]
    have hc := h.escs.cut 1 h1
    have e : vin17 v.es.tail = (vin17 v.es).drop 1 := by rw [← List.drop_one, vin17_drop]
    rw [e]
    exact hc.only hO (fun k hk hm => by
      rw [List.mem_singleton] at hm
      subst hm
      rw [rowT_cut] at hk
      exact h.ne_ea k hk (by simp))
  · exact h.calls.only hO (fun k hk hm => by rw [List.mem_singleton] at hm; subst hm; exact h.ne_rk hk)
/-- Calls appended, and the assembler holds them. -/
theorem As.pushK {Q : Nat → Prop} {rr : Nat} {w w6 : World} {v : AV} (h : As Q rr w v) {K' : Option Addr} {c' N : Nat} {m : List CK} (hR : KRow w6 107 2 ckcs K' c' (v.ks ++ m)) (hN : N = (v.ks ++ m).length) (hO : Only (rowT v.K) w w6) (hK : ∀ k, k ∈ rowT K' → k ∈ rowT v.K ∨ k = w.heap.size) :
    Ev17 Q rr w v (w6.setCell ⟨rr, 3, none⟩ (.slice K' N c')) { v with K := K', kc := c', ks := v.ks ++ m } := by
  subst hN
  have hX : Blk w6 rr 104 v.cs := h.blk.only hO h.ne_rk
  have hO7 : Only [rr] w6 (w6.setCell ⟨rr, 3, none⟩ (.slice K' (v.ks ++ m).length c')) := (Only.refl _ _).setCell (.inl (by simp)) _
  have hrl := h.blk.lt
  have hK' : ∀ k, k ∈ rowT K' → k ∈ rowT v.K ∨ w.heap.size ≤ k := fun k hk => (hK k hk).imp id (fun e => by omega)
  have hrK : rr ∉ rowT K' := fun hk => by
    rcases hK rr hk with g | g
    · exact h.ne_rk g
    · omega
  refine ⟨⟨?_, ?_, ?_, ?_, fun g hg => ?_⟩, ?_, fun k hk => .inl hk, hK'⟩
  · exact hX.set_ 3 (.slice K' (v.ks ++ m).length c')
  · refine (h.code.only hO (fun k hk hm => h.ne_ak k hm hk)).only hO7 (fun k hk hm => ?_)
    rw [List.mem_singleton] at hm
    subst hm
    exact h.ne_ra hk
  · refine (h.escs.only hO (fun k hk hm => h.ne_ea k hk (by simp [hm]))).only hO7 (fun k hk hm => ?_)
    rw [List.mem_singleton] at hm
    subst hm
    exact h.ne_ea k hk (by simp)
  · exact hR.only hO7 (fun k hk hm => by rw [List.mem_singleton] at hm; subst hm; exact hrK hk)
  · obtain ⟨g1, g2, g3, g4⟩ := h.fr g hg
    refine ⟨by have := hO.size; have := hO7.size; omega, g2, g3, fun hk => ?_⟩
    rcases hK g hk with e | e
    · exact g4 e
    · omega
  · refine (hO.more (T := v.T rr) (fun k hk => by simp [hk])).setCell (.inl (by simp)) _
section
variable {ops : Array Oper} {Q : Exit → Act → World → Prop}
theorem region_ckAppend {T : List Nat} (k : Nat) {listed : Array Bool} {fuel : Nat} {a : Act} {w : World} {o : Oper} (hr : Region.ready .any ops listed = [k])
    (ho : ops[k]? = some o) (hw : Region.wanted o (yielded ops a.tmps) = true) (s x : Operand) (hop : o.op = .call { callee := .builtin .append, args := #[s, x], argTypes := #[102, 102] })
    (A : Option Addr) (n c : Nat) (l : List CK) (hn : l.length = n) (hs : a.eval s = .slice A n c) (hA : KRow w 107 2 ckcs A c l) (X : Option Addr) (d : Nat) (m : List CK) (j : Nat) (hj : m.length = j) (hx : a.eval x = .slice X j d) (hX : Src w 2 ckcs X m)
    (hle : n + j ≤ 100000) (hT : ∀ g, g ∈ rowT A → g ∈ T)
    (h : ∀ A' c' w', Hid (KRow w' 107 2 ckcs A' c' (l ++ m)) → Hid (Only (rowT A) w w') → Hid (∀ k, k ∈ rowT A' → k ∈ rowT A ∨ k = w.heap.size) →
      wpAnyH Tryz.prog .any ops Q (Only T w') fuel (listed.setIfInBounds k true) (a.put o.dst (.slice A' (n + j) c')) w') :
    wpAnyH Tryz.prog .any ops Q (Only T w) (fuel + 1) listed a w := by
  obtain ⟨i0, hi, hz, hsize, hby⟩ := info_parts info_call17
  subst hn hj
  obtain ⟨A', c', w', hrun, h2, h3, h4⟩ := rowK_append (P := Tryz.prog) o.type Tryz.underlying102 hi hz hsize hby cells_call17 (by decide) hA d (flat_length ckcs_len m) hX (fun u hu => by obtain ⟨y, _, hy⟩ := flat_mem hu; exact ckcs_one y u hy) (by unfold maxLen; omega) (by omega)
  refine region_make k hr ho hw (exec_append hop hs hx hrun) (h3.more hT) (h A' c' w' (Lib.hid ?_) (Lib.hid h3) (Lib.hid h4))
  unfold KRow
  rw [flat_append, List.length_append]
  exact h2
end
section
variable {P : Program} {ops : Array Oper} {Q : Exit → Act → World → Prop}
/-- The same with a value that is built in between. -/
theorem region_three {T : List Nat} (p q q2 : Nat) {listed : Array Bool} {fuel : Nat} {a : Act} {w w1 : World} {op oq o2 : Oper} {v u u2 : Value} (hr : Region.ready .any ops listed = [p, q]) (hrp : Region.ready .any ops (listed.setIfInBounds p true) = [q]) (hrpq : Region.ready .any ops ((listed.setIfInBounds p true).setIfInBounds q true) = [q2])
    (hrq : Region.ready .any ops (listed.setIfInBounds q true) = [p, q2]) (hrqp : Region.ready .any ops ((listed.setIfInBounds q true).setIfInBounds p true) = [q2]) (hrq2 : Region.ready .any ops ((listed.setIfInBounds q true).setIfInBounds q2 true) = [p])
    (hop : ops[p]? = some op) (hoq : ops[q]? = some oq) (ho2 : ops[q2]? = some o2) (hwp : Region.wanted op (yielded ops a.tmps) = true) (hwq : Region.wanted oq (yielded ops a.tmps) = true) (hwq2 : Region.wanted oq (yielded ops (a.put op.dst v).tmps) = true)
    (hw2 : Region.wanted o2 (yielded ops ((a.put op.dst v).put oq.dst u).tmps) = true) (hwp2 : Region.wanted op (yielded ops (a.put oq.dst u).tmps) = true) (hw3 : Region.wanted o2 (yielded ops (a.put oq.dst u).tmps) = true) (hw4 : Region.wanted o2 (yielded ops ((a.put oq.dst u).put op.dst v).tmps) = true) (hw5 : Region.wanted op (yielded ops ((a.put oq.dst u).put o2.dst u2).tmps) = true)
    (hp : (execOp a.eval op).run P w = .ok (.value v) w) (hq : (execOp a.eval oq).run P w = .ok (.value u) w) (hq2 : (execOp (a.put op.dst v).eval oq).run P w = .ok (.value u) w) (h2 : (execOp ((a.put op.dst v).put oq.dst u).eval o2).run P w = .ok (.value u2) w1)
    (hp2 : (execOp (a.put oq.dst u).eval op).run P w = .ok (.value v) w) (h3 : (execOp (a.put oq.dst u).eval o2).run P w = .ok (.value u2) w1) (h4 : (execOp ((a.put oq.dst u).put op.dst v).eval o2).run P w = .ok (.value u2) w1) (hp3 : (execOp ((a.put oq.dst u).put o2.dst u2).eval op).run P w1 = .ok (.value v) w1) (hO : Only T w w1)
    (hl : (listed.setIfInBounds q true).setIfInBounds p true = (listed.setIfInBounds p true).setIfInBounds q true) (ha : (a.put oq.dst u).put op.dst v = (a.put op.dst v).put oq.dst u)
    (hl2 : ((listed.setIfInBounds q true).setIfInBounds q2 true).setIfInBounds p true = ((listed.setIfInBounds q true).setIfInBounds p true).setIfInBounds q2 true) (ha2 : ((a.put oq.dst u).put o2.dst u2).put op.dst v = ((a.put oq.dst u).put op.dst v).put o2.dst u2)
    (h : wpAnyH P .any ops Q (Only T w1) fuel (((listed.setIfInBounds p true).setIfInBounds q true).setIfInBounds q2 true) (((a.put op.dst v).put oq.dst u).put o2.dst u2) w1) : wpAnyH P .any ops Q (Only T w) (fuel + 3) listed a w := by
  refine wpAnyH_all hr (by simp) (fun i hi => ?_)
  simp only [List.mem_cons, List.not_mem_nil, or_false] at hi
  rcases hi with rfl | rfl
  · exact op_make hop hwp hp (Only.refl _ _) (region_make q hrp hoq hwq2 hq2 (Only.refl _ _) (region_make q2 hrpq ho2 hw2 h2 hO h))
  · exact op_make hoq hwq hq (Only.refl _ _) (region_two p q2 hrq hrqp hrq2 hop ho2 hwp2 hw3 hw4 hw5 hp2 h3 h4 hp3 hO hl2 ha2 (by rw [hl, ha]; exact h))
end
section
variable {Q : Nat → Prop} {rr : Nat} {w : World} {v : AV}
theorem n_ne {W : World} (h : As Q rr W v) {x : NT} {g : Nat} (hN : Blk W g 69 x.cs) : g ∉ v.T rr := h.ne hN (by decide) (by decide) (by decide)
set_option maxHeartbeats 6400000 in
theorem pn_print (x : NT) (h : As Q rr w v) (hk : x.k = 1) (he : 1 ≤ v.es.length) (hle : v.L.length + 1 ≤ 100000) : PnC Q rr w v x := by
  unfold PnC
  rw [nodeC_eq, if_neg (by omega), if_pos hk, nodeK_eq, if_neg (by omega), if_neg (by omega), if_neg (by omega)]
  have k0 : (x.k == 0) = false := by rw [hk]; rfl
  have k1 : (x.k == 1) = true := by rw [hk]; rfl
  obtain ⟨e0, he0⟩ : ∃ e0, e0 = v.es.headD 0 := ⟨_, rfl⟩
  have hv0 : (vin17 v.es)[0]? = some (.int .i64 (e0 : Nat)) := by
    rw [he0]
    cases hes : v.es with
    | nil => rw [hes] at he; simp at he
    | cons a r => rfl
  rw [← he0]
  obtain ⟨x0, x1, x2, x3, x4, x5, x6, x7⟩ := node_cells (show Blk (wN w x) w.heap.size 69 x.cs from Blk.new w 69 x.cs)
  obtain ⟨W, hW⟩ : ∃ W, W = (wN w x).drew := ⟨_, rfl⟩
  have HB := Lib.hid (show Bel w W by rw [hW]; exact (Bel.alloc w _).trans (Bel.drew16 _))
  have HND := Lib.hid (show Blk W w.heap.size 69 x.cs by rw [hW]; exact (Blk.new w 69 x.cs).drew)
  have HA := Lib.hid (h.bel HB.out)
  have HEV := Lib.hid ((Ev17.refl h).bel HB.out)
  have HNX := Lib.hid (n_ne HA.out HND.out)
  have HAD := Lib.hid (show Calls Tryz.prog 67 #[.pointer (some ⟨rr, 0, none⟩), .agg #[.int .i64 1, .string ⟨#[]⟩, .string x.p, .bool false, .int .i64 (e0 : Nat), .int .i64 0]] W _ from add_c HA.out ⟨1, eB, x.p, false, e0, 0⟩ hle)
  obtain ⟨m, hm⟩ : ∃ m, m = v.es.length := ⟨_, rfl⟩
  have HM := Lib.hid hm
  rw [← hm] at he
  obtain ⟨g, o, hE, hc⟩ := HA.out.escs.cell (j := 0) hv0
  rw [Nat.add_zero] at hc
  have HGE := Lib.hid (HA.out.ne_ea g (mem_rowT.2 ⟨_, hE, rfl⟩))
  have HGL := Lib.hid (HA.out.escs.lt g (mem_rowT.2 ⟨_, hE, rfl⟩))
  have HHC := Lib.hid hc
  have HHE := Lib.hid hE
  have HRL := Lib.hid HA.out.blk.lt
  clear h hk he0 hv0 hm hc hE
  go_enter Tryz.func92, Tryz.ntmps92
  go_wp2_with fail
  refine region_begin (T := v.T rr) (by kernel_rfl) ?_
  rw [show (World.drew _) = W from hW.symm]
  clear hW x0 x1 x2 x3 x4 x5 x6 x7
  have p3 : ∀ X : Later (v.T rr) W, X.w.cell? ⟨w.heap.size, 3, none⟩ = some (.string x.p) := fun X => (HND.out.only X.h HNX.out).cell 3
  refine region_seg [true, true, true, true, true, true] 5 (by kernel_rfl) (by kernel_rfl) (by kernel_rfl) rfl (fun _ _ d _ _ h => by cases d <;> exact h) ?_
  repeat (first | with_reducible refine wpMask_pass ?_ | (refine wpMask_want (by rfl) (fun K hK => ?_); go_big_quiet_op; refine hK _ ?_; clear hK K))
  with_reducible refine wpMask_nil ?_
  clear p3
  have c1 := HA.out.blk.cell 1
  simp only [List.getElem?_cons_zero, List.getElem?_cons_succ, HHE.out] at c1
  rw [← HM.out] at c1
  refine region_make 6 (v := .slice (some ⟨g, o, none⟩) m v.ce) (w1 := W) (by kernel_rfl) rfl (by rfl) (by go_simp) (Only.refl _ _) ?_
  simp only [List.getElem_toArray, List.getElem_cons_zero, List.getElem_cons_succ, Act.put, List.setIfInBounds_toArray, List.set_cons_zero, List.set_cons_succ]
  clear c1
  have p0 : ∀ X : Later (v.T rr) W, X.w.cell? ⟨g, o, none⟩ = some (.int .i64 (e0 : Nat)) := fun X => (cell_only X.h HGL.out HGE.out o).trans HHC.out
  refine region_seg [false, false, false, false, false, false, false, true, true] 2 (by kernel_rfl) (by kernel_rfl) (by kernel_rfl) rfl (fun _ _ d _ _ h => by cases d <;> exact h) ?_
  repeat (first | with_reducible refine wpMask_pass ?_ | (refine wpMask_want (by rfl) (fun K hK => ?_); go_big_quiet_op; refine hK _ ?_; clear hK K))
  with_reducible refine wpMask_nil ?_
  clear p0
  refine region_make 9 (v := .agg #[.int .i64 1, .string ⟨#[]⟩, .string x.p, .bool false, .int .i64 (e0 : Nat), .int .i64 0]) (w1 := W) (by kernel_rfl) rfl (by rfl) (by go_simp) (Only.refl _ _) ?_
  simp only [List.getElem_toArray, List.getElem_cons_zero, List.getElem_cons_succ, Act.put, List.setIfInBounds_toArray, List.set_cons_zero, List.set_cons_succ]
  refine region_call 10 (by kernel_rfl) rfl (by rfl) (by go_simp; exact ⟨rfl, rfl⟩) ?_
  (with_reducible refine HAD.out.mono ?_); rintro e w2 ⟨rfl, v', hE, hS⟩; refine ⟨_, rfl, hE.out.only, ?_⟩
  simp only [List.getElem_toArray, List.getElem_cons_zero, List.getElem_cons_succ, Act.put, List.setIfInBounds_toArray, List.set_cons_zero, List.set_cons_succ]
  refine region_end (by kernel_rfl) ?_
  obtain ⟨m', hm'⟩ : ∃ m', m' = v'.es.length := ⟨_, rfl⟩
  have HM' := Lib.hid hm'
  have hmm : m' = m := by rw [hm', hS.out.es, HM.out]
  have c1 := hE.out.st.blk.cell 1
  have f1 := hE.out.st.blk.free 1
  simp only [List.getElem?_cons_zero, List.getElem?_cons_succ] at c1
  rw [← hm'] at c1
  have hcl := hE.out.st.escs.le
  have hcx := hE.out.st.escs.max
  rw [← hm'] at hcl
  unfold maxLen at hcx
  clear hm'
  go_wp2_with fail
  go_end0
  have HT := Lib.hid (hE.out.st.took (by rw [← HM'.out]; omega))
  rw [← HM'.out, hmm] at HT
  refine asP_then HEV.out rfl (asP_then hE.out hS.out.M (v := v') ⟨rfl, _, HT, Lib.hid ⟨hS.out.L, ?_, ?_, rfl⟩⟩)
  · show v'.es.tail = _
    rw [hS.out.es]
  · show v'.ks = _
    rw [hS.out.ks, List.append_nil]
set_option maxHeartbeats 6400000 in
theorem pn_call (x : NT) (h : As Q rr w v) (hk : x.k = 4) (hle : v.L.length + 1 ≤ 100000) (hkl : v.ks.length + 1 ≤ 100000) : PnC Q rr w v x := by
  unfold PnC
  rw [nodeC_eq, if_neg (by omega), if_neg (by omega), if_neg (by omega), if_neg (by omega), if_pos hk, nodeK_eq, if_neg (by omega), if_neg (by omega), if_pos hk]
  have k0 : (x.k == 0) = false := by rw [hk]; rfl
  have k1 : (x.k == 1) = false := by rw [hk]; rfl
  have k2 : (x.k == 2) = false := by rw [hk]; rfl
  have k3 : (x.k == 3) = false := by rw [hk]; rfl
  have k4 : (x.k == 4) = true := by rw [hk]; rfl
  have HND := Lib.hid (show Blk (wN w x) w.heap.size 69 x.cs from Blk.new w 69 x.cs)
  obtain ⟨x0, x1, x2, x3, x4, x5, x6, x7⟩ := node_cells HND.out
  have HAD := Lib.hid (show Calls Tryz.prog 67 #[.pointer (some ⟨rr, 0, none⟩), .agg #[.int .i64 6, .string ⟨#[]⟩, .string x.p, .bool x.h, .int .i64 0, .int .i64 0]] (wN w x) _ from add_c (as_n h x) ⟨6, eB, x.p, x.h, 0, 0⟩ hle)
  have HEV := Lib.hid (ev_n h x)
  have HAN := Lib.hid (as_n h x)
  obtain ⟨n, hn⟩ : ∃ n, n = v.L.length := ⟨_, rfl⟩
  rw [← hn] at HAD ⊢
  have HN := Lib.hid hn
  clear h hk hle hn
  go_enter Tryz.func92, Tryz.ntmps92
  go_wp2_with (go_at_call 67; ((with_reducible refine HAD.out.mono ?_); rintro e w2 ⟨rfl, v', hE, hS⟩))
  obtain ⟨W, hW⟩ : ∃ W, W = w2.drew := ⟨_, rfl⟩
  have HA := Lib.hid (show As Q rr W v' by rw [hW]; exact hE.out.st.bel (Bel.drew16 _))
  have HE2 := Lib.hid (show Ev17 Q rr (wN w x) v W v' by rw [hW]; exact hE.out.bel (Bel.drew16 _))
  have HN2 := Lib.hid (HAN.out.keep HE2.out HND.out (by decide) (by decide) (by decide))
  have HNX := Lib.hid (show w.heap.size ∉ rr :: rowT v'.K from fun hk => n_ne HA.out HN2.out (by
    rcases List.mem_cons.1 hk with g | g
    · rw [g]; simp
    · simp [g]))
  obtain ⟨m, hm⟩ : ∃ m, m = v'.ks.length := ⟨_, rfl⟩
  have HM := Lib.hid hm
  have hml : m + 1 ≤ 100000 := by rw [hm, hS.out.ks]; exact hkl
  refine region_begin (T := rr :: rowT v'.K) (by kernel_rfl) ?_
  rw [show (World.drew _) = W from hW.symm]
  clear hW hm hkl
  have p2 : ∀ X : Later (rr :: rowT v'.K) W, X.w.cell? ⟨w.heap.size, 2, none⟩ = some (.string x.s) := fun X => (HN2.out.only X.h HNX.out).cell 2
  refine region_seg [true, true, true, true, false, true, true, true] 7 (by kernel_rfl) (by kernel_rfl) (by kernel_rfl) rfl (fun _ _ d _ _ h => by cases d <;> exact h) ?_
  repeat (first | with_reducible refine wpMask_pass ?_ | (refine wpMask_want (by rfl) (fun K hK => ?_); go_big_quiet_op; refine hK _ ?_; clear hK K))
  with_reducible refine wpMask_nil ?_
  clear p2
  have HA2 := Lib.hid (HA.out.bel (Bel.alloc W (.cells #[.int .i64 (n : Nat), .string x.s] 107)))
  have c0 := HA.out.blk.cell 3
  have c1 := HA2.out.blk.cell 3
  simp only [List.getElem?_cons_zero, List.getElem?_cons_succ] at c0 c1
  rw [← HM.out] at c0 c1
  refine region_three 4 8 9 (v := .slice v'.K m v'.kc) (u := .agg #[.int .i64 (n : Nat), .string x.s]) (u2 := .slice (some ⟨W.heap.size, 0, none⟩) 1 1) (w1 := W.alloc (.cells #[.int .i64 (n : Nat), .string x.s] 107)) (by kernel_rfl) (by kernel_rfl) (by kernel_rfl) (by kernel_rfl) (by kernel_rfl) (by kernel_rfl) rfl rfl rfl (by rfl) (by rfl) (by rfl) (by rfl) (by rfl) (by rfl) (by rfl) (by rfl) (by go_simp) (by go_simp) (by go_simp) (by go_simp) (by go_simp) (by go_simp) (by go_simp) (by go_simp) ((Only.refl _ _).alloc _) (by kernel_rfl) (by rfl) (by kernel_rfl) (by rfl) ?_
  simp only [List.getElem_toArray, List.getElem_cons_zero, List.getElem_cons_succ, Act.put, List.setIfInBounds_toArray, List.set_cons_zero, List.set_cons_succ]
  clear c0 c1
  have HS := Lib.hid (show Src (W.alloc (.cells #[.int .i64 (n : Nat), .string x.s] 107)) 2 ckcs (some ⟨W.heap.size, 0, none⟩) [(n, x.s)] from src_blk (f := ckcs) (z := 2) (m := [(n, x.s)]) (Blk.new W 107 (ckcs (n, x.s))) (by rw [flat_one]))
  refine region_ckAppend 10 (by kernel_rfl) rfl (by rfl) (.tmp 58) (.tmp 63) rfl v'.K m v'.kc v'.ks HM.out.symm rfl HA2.out.calls (some ⟨W.heap.size, 0, none⟩) 1 [(n, x.s)] 1 rfl rfl HS.out hml (fun g hg => List.mem_cons_of_mem _ hg) ?_
  intro A' c' W4 HR4 HO4 HK4
  simp only [List.getElem_toArray, List.getElem_cons_zero, List.getElem_cons_succ, Act.put, List.setIfInBounds_toArray, List.set_cons_zero, List.set_cons_succ]
  refine region_seg [false, false, false, false, false, false, false, false, false, false, false, true, true] 1 (by kernel_rfl) (by kernel_rfl) (by kernel_rfl) rfl (fun _ _ d _ _ h => by cases d <;> exact h) ?_
  repeat (first | with_reducible refine wpMask_pass ?_ | (refine wpMask_want (by rfl) (fun K hK => ?_); go_big_quiet_op; refine hK _ ?_; clear hK K))
  with_reducible refine wpMask_nil ?_
  have HX4 := Lib.hid (show Blk W4 rr 104 v'.cs from HA2.out.blk.only HO4.out HA2.out.ne_rk)
  have c0 := HX4.out.cell 3
  have f0 := HX4.out.free 3
  simp only [List.getElem?_cons_zero, List.getElem?_cons_succ] at c0
  refine region_store 13 (w1 := W4.setCell ⟨rr, 3, none⟩ (.slice A' (m + 1) c')) (by kernel_rfl) rfl (by rfl) (by go_simp) ((Only.refl _ _).setCell (.inl (by simp)) _) ?_
  simp only [List.getElem_toArray, List.getElem_cons_zero, List.getElem_cons_succ, Act.put, List.setIfInBounds_toArray, List.set_cons_zero, List.set_cons_succ]
  refine region_end (by kernel_rfl) ?_
  clear c0 f0
  go_wp2_with fail
  go_end0
  have HT := Lib.hid ((HE2.out.bel (Bel.alloc W (.cells #[.int .i64 (n : Nat), .string x.s] 107))).trans (As.pushK HA2.out (N := m + 1) HR4.out (by rw [List.length_append, ← HM.out]; rfl) HO4.out HK4.out))
  exact asP_then HEV.out rfl ⟨rfl, _, HT, Lib.hid ⟨hS.out.L, hS.out.es, by show v'.ks ++ _ = _; rw [hS.out.ks], hS.out.M⟩⟩
end
end Go.Proofs.YtpcapmdfjmpdiaaGreatDoor
