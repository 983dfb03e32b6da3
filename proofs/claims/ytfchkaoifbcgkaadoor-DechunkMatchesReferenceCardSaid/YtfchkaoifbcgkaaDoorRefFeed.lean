/-
  The contract of the reference's Feed of layer 5.
-/
import Derived.Test.YtfchkaoifbcgkaaDoorOfRef
import Derived.Test.YtfchkaoifbcgkaaDoorTurn
namespace Go.Proofs.YtfchkaoifbcgkaaDoor
open Go.RowKit Go.BigFrame
set_option linter.unusedVariables false
set_option linter.unusedSimpArgs false
attribute [local go_sem ↓] sliced_cut run_min2 run_max2
attribute [local go_sem] cutA_zero

/-- The reference's decoder at block r: the decoded bytes, the error. -/
structure RdAt (w : World) (T : List Nat) (r : Nat) (b : List UInt8) (e : Nat) (A : Option Addr) (a : Nat) : Prop where
  head : Blk w r 35 [.slice A b.length a, .int .i64 e]
  row : RowAt w 5 A b.length a (vbs b)
  inR : r ∈ T
  inA : ∀ k, k ∈ rowT A → k ∈ T
  lt : ∀ k, k ∈ T → k < w.heap.size
def Rd (r : Nat) (b : List UInt8) (e : Nat) : World → List Nat → Prop := fun w T => ∃ A a, RdAt w T r b e A a
section
variable {w w' : World} {T : List Nat} {r : Nat} {b : List UInt8} {e : Nat} {A : Option Addr} {a : Nat}
theorem RdAt.only {U : List Nat} (h : RdAt w T r b e A a) (ho : Only U w w') (hS : ∀ k, k ∈ T → k ∉ U) : RdAt w' T r b e A a :=
  ⟨h.head.only ho (hS _ h.inR), h.row.only ho (fun k hk => hS _ (h.inA k hk)), h.inR, h.inA, fun k hk => Nat.lt_of_lt_of_le (h.lt k hk) ho.size⟩
theorem rd_thing (r : Nat) (b : List UInt8) (e : Nat) : IsThing (Rd r b e) :=
  ⟨fun ⟨A, a, h⟩ ho hS => ⟨A, a, h.only ho hS⟩, fun ⟨A, a, h⟩ => h.lt⟩
theorem RdAt.neA (h : RdAt w T r b e A a) : r ∉ rowT A := h.row.ne_blk h.head (by decide)
/-- Other bytes, other error. -/
theorem rd_turn (h : RdAt w T r b e A a) (hO : Only T w w') {b' : List UInt8} {e' : Nat} {A' : Option Addr} {a' N : Nat} (hN : N = b'.length) (hb : Blk w' r 35 [.slice A' N a', .int .i64 e'])
    (h1 : RowAt w' 5 A' N a' (vbs b')) (hk : ∀ k, k ∈ rowT A' → k ∈ T ∨ w.heap.size ≤ k) : Turned (Rd r b' e') w T w' := by
  subst hN
  refine ⟨T ++ rowT A', ⟨A', a', hb, h1, by simp [h.inR], fun k hk => by simp [hk], fun k hk' => ?_⟩, fun k hk' => ?_, hO⟩
  · rcases List.mem_append.1 hk' with h2 | h2
    · exact Nat.lt_of_lt_of_le (h.lt k h2) hO.size
    · exact h1.lt k h2
  · rcases List.mem_append.1 hk' with h2 | h2
    · exact .inl h2
    · exact hk k h2
/-- The error written. -/
theorem rd_err (h : RdAt w T r b e A a) (e' : Nat) : Turned (Rd r b e') w T (w.setCell ⟨r, 1, none⟩ (.int .i64 (e' : Int))) := by
  refine rd_turn h ((Only.refl T w).setCell (.inl h.inR) _) rfl (A' := A) (a' := a) ?_ (h.row.far (by simpa using h.neA) _) (fun k hk => .inl (h.inA k hk))
  have := h.head.set_ 1 (.int .i64 (e' : Int))
  simpa using this
end
theorem Turned.rd {w w1 : World} {T : List Nat} {r : Nat} {b : List UInt8} {e : Nat} (h : Turned (Rd r b e) w T w1) : ∃ A a n, n = b.length ∧ Blk w1 r 35 [.slice A n a, .int .i64 e] ∧ RowAt w1 5 A n a (vbs b) := by
  obtain ⟨T1, ⟨A, a, h1⟩, _, _⟩ := h
  exact ⟨A, a, _, rfl, h1.head, h1.row⟩

/-- The fields of what Of answers. -/
theorem res_valid (a b c d v : Value) (w : World) : (Instr.field 38 (.agg #[a, b, c, d, v]) 4).run Tryd.prog w = .ok v w := by kernel_rfl
theorem res_complete (a b c v d : Value) (w : World) : (Instr.field 38 (.agg #[a, b, c, v, d]) 3).run Tryd.prog w = .ok v w := by kernel_rfl
theorem turned_only {P : World → List Nat → Prop} (hP : IsThing P) {w w1 w2 : World} {T : List Nat} (h : Turned P w T w1) (hO : Only [] w1 w2) : Turned P w T w2 := by
  obtain ⟨T1, h1, hk, hO1⟩ := h
  exact ⟨T1, hP.only h1 hO (by simp), hk, hO1.trans (hO.more (by simp))⟩
theorem turned_rerr {w w1 : World} {T : List Nat} {r : Nat} {b : List UInt8} {e : Nat} (h : Turned (Rd r b e) w T w1) (e' : Nat) : Turned (Rd r b e') w T (w1.setCell ⟨r, 1, none⟩ (.int .i64 (e' : Int))) :=
  h.trans fun T1 h1 => by
    obtain ⟨A, a, h1⟩ := h1
    exact rd_err h1 e'
/-- The bytes replaced by a row of the call's own. -/
theorem turned_next {w w1 : World} {T : List Nat} {r : Nat} {b b' : List UInt8} {e : Nat} (h : Turned (Rd r b e) w T w1) {A : Option Addr} {N a : Nat} (hR : RowAt w1 5 A N a (vbs b')) (hk : ∀ k, k ∈ rowT A → w.heap.size ≤ k) : Turned (Rd r b' e) w T (w1.setCell ⟨r, 0, none⟩ (.slice A N a)) := by
  have hN : N = b'.length := by have := hR.len; rw [vbs_length] at this; exact this.symm
  subst hN
  obtain ⟨T1, ⟨A1, a1, h1⟩, hk1, hO⟩ := h
  have hb := h1.head.set_ 0 (.slice A b'.length a)
  have hsz : ∀ v : Value, (w1.setCell ⟨r, 0, none⟩ v).heap.size = w1.heap.size := fun v => by simp [World.setCell]
  refine ⟨T1 ++ rowT A, ⟨A, a, by simpa using hb, hR.far (by simpa using hR.ne_blk h1.head (by decide)) _, by simp [h1.inR], fun k hk => by simp [hk], fun k hk' => ?_⟩, fun k hk' => ?_, hO.setCell (hk1 r h1.inR) _⟩
  · rw [hsz]
    rcases List.mem_append.1 hk' with h2 | h2
    · exact h1.lt k h2
    · exact hR.lt k h2
  · rcases List.mem_append.1 hk' with h2 | h2
    · exact hk1 k h2
    · exact .inr (hk k h2)
set_option maxRecDepth 100000 in
set_option maxHeartbeats 8000000 in
theorem refFeed_c {w : World} {T : List Nat} {r : Nat} {B0 : List UInt8} {e0 : Nat} (h : Rd r B0 e0 w T) {B n c : Nat} {X : Option Addr} {b : List UInt8} (hb : Reads w B X n (vbs b)) (hB : B ≤ w.heap.size)
    (hX : 0 < n → ∀ ad, X = some ad → ad.block ∉ T) (hnc : n ≤ c) (hcm : c ≤ maxLen) (ho : B0.length + n ≤ 900000) {B' : List UInt8} {e' : Nat} (hfe : feedR B0 e0 b = (B', e')) :
    Calls Tryd.prog 16 #[.pointer (some ⟨r, 0, none⟩), .slice X n c] w fun x w' => x = .returned (.int .i64 e') ∧ Turned (Rd r B' e') w T w' := by
  have hbl : b.length = n := by have := hb.1; rwa [vbs_length] at this
  have H := Lib.hid h
  have HBD := Lib.hid hb
  have HBL := Lib.hid hbl
  have HX := Lib.hid hX
  have HFE := Lib.hid hfe
  have hcm' := hcm
  unfold maxLen at hcm'
  clear h hb hbl hX hfe hcm
  go_enter Tryd.func16, Tryd.ntmps16
  go_wp2
  go_loopw [5] (fun si wr => ∃ (i : Nat) (B1 : List UInt8) (e1 : Nat), i ≤ n ∧ si = .int .i64 i ∧ Hid (B1.length + (n - i) ≤ 900000) ∧ Hid (Turned (Rd r B1 e1) w T wr) ∧ Hid (feedR B1 e1 (b.drop i) = (B', e'))) (fun si _ => n - (intOf si).toNat)
  case atStart => exact ⟨0, B0, e0, Nat.zero_le _, rfl, Lib.hid ho, Lib.hid (Turned.refl H.out), HFE⟩
  case round =>
    obtain ⟨i, B1, e1, hin, rfl, hl1, hT1, hF1⟩ := hrel
    obtain ⟨A1, a1, n1, hn1, hb1, hr1⟩ := hT1.out.rd
    have d1 := hb1.cell 1
    have d0 := hb1.cell 0
    simp only [List.getElem?_cons_succ, List.getElem?_cons_zero] at d1 d0
    have HB1 := Lib.hid hb1
    have HR1 := Lib.hid hr1
    have HN1 := Lib.hid hn1
    clear hb1 hr1 hn1
    by_cases hlt : i < n
    · obtain ⟨g, q, rfl, hg, hc⟩ := HBD.out.plain (by omega)
      have hil : i < b.length := by rw [HBL.out]; exact hlt
      have hbn : g ∉ T := HX.out (by omega) _ rfl
      have hci : wr.cell? ⟨g, q + i, none⟩ = some (.int .u8 ((b[i]'hil).toNat : Int)) := by
        obtain ⟨T1, _, _, hO⟩ := hT1.out
        exact cell_only (hc i _ (by rw [vbs_getElem?, List.getElem?_eq_getElem hil]; rfl)) hO hbn
      have hdr : b.drop i = b[i] :: b.drop (i + 1) := List.drop_eq_getElem_cons hil
      generalize b[i]'hil = x at *
      clear hc
      have hFx : Hid (feedR B1 e1 (x :: b.drop (i + 1)) = (B', e')) := Lib.hid (by rw [← hdr]; exact hF1.out)
      clear hF1 hdr hil hg hbn
      by_cases he : e1 = 0
      · subst he
        have hlti : (i : Int) < (n : Int) := by omega
        have hltb : decide ((i : Int) < (n : Int)) = true := by simpa using hlt
        have hn1b : n1 ≤ 900000 := by have h1 := hl1.out; have h2 := HN1.out; omega
        go_wp2_with fail
        refine region_begin (T := [wr.heap.size, wr.heap.size + 1, wr.heap.size + 2]) (by kernel_rfl) ?_
        have HT1 : Hid (Turned (Rd r B1 0) w T wr.drew) := Lib.hid (by
          obtain ⟨T1, h1, hk, hO⟩ := hT1.out
          exact ⟨T1, (rd_thing _ _ _).only h1 ((Only.refl [] wr).drew) (by simp), hk, hO.drew⟩)
        have HRW : Hid (RowAt wr.drew 5 A1 n1 a1 (vbs B1)) := Lib.hid (HR1.out.keep fun _ _ => rfl)
        have s0 : ∀ y : Later [wr.heap.size, wr.heap.size + 1, wr.heap.size + 2] wr.drew, y.w.cell? ⟨r, 0, none⟩ = some (.slice A1 n1 a1) := fun y => by
          have := ((HB1.out.drew).only y.h (by have := HB1.out.lt; simp; omega)).cell 0
          simpa using this
        have s1 : ∀ y : Later [wr.heap.size, wr.heap.size + 1, wr.heap.size + 2] wr.drew, y.w.cell? ⟨g, q + i, none⟩ = some (.int .u8 (x.toNat : Int)) := fun y => by
          have hgl := cell_lt hci
          exact cell_only (w := wr.drew) hci y.h (by simp at hgl; simp; omega)
        have hsz : wr.drew.heap.size = wr.heap.size := rfl
        rw [← hsz] at s0 s1
        rw [← hsz]
        clear hsz
        generalize wr.drew = W at HT1 HRW s0 s1 ⊢
        refine region_seg [false, true, true, true, true, false, true, true, true, true] 5 (by kernel_rfl) (by kernel_rfl) (by kernel_rfl) rfl (fun _ _ d _ _ h => by cases d <;> exact h) ?_
        repeat (first | with_reducible refine wpMask_pass ?_ | (refine wpMask_want (by rfl) (fun K hK => ?_); go_big_quiet_op; refine hK _ ?_; clear hK K))
        with_reducible refine wpMask_nil ?_
        clear s0 s1 hci
        obtain ⟨i0, hi, hz0, hz1, hz2⟩ := info_parts info_byte
        have hb1' := Lib.hid (show 0 + n1 ≤ maxLen by unfold maxLen; omega)
        have hb2' := Lib.hid (show (0 + n1) * 1 ≤ 140737488355328 by omega)
        have HRD : ∀ w', Only [W.heap.size, W.heap.size + 1, W.heap.size + 2] W w' → Reads w' W.heap.size A1 n1 (vbs B1) := fun w' hO => HRW.out.reads.only hO (Nat.le_refl _) (by simp)
        refine wpAnyH_all (rs := [0, 10]) (by kernel_rfl) (by simp) (fun i hi => ?_)
        simp only [List.mem_cons, List.not_mem_nil, or_false] at hi
        rcases hi with rfl | rfl
        case' inl =>
          refine op_make (v := .slice (some ⟨W.heap.size, 0, none⟩) 0 0) (w1 := W.alloc (.cells #[] 5)) rfl (by rfl) (by go_simp) ((Only.refl _ _).alloc _) ?_
          simp only [List.getElem_toArray, List.getElem_cons_zero, List.getElem_cons_succ, Act.put, List.setIfInBounds_toArray, List.set_cons_zero, List.set_cons_succ]
          have hE0 : RowAt (W.alloc (.cells #[] 5)) 5 (some ⟨W.heap.size, 0, none⟩) 0 0 [] := RowAt.of_blk (Blk.new W 5 []) (by simp)
          have hOE : Only [W.heap.size, W.heap.size + 1, W.heap.size + 2] W (W.alloc (.cells #[] 5)) := (Only.refl _ W).alloc _
          refine wpAnyH_all (rs := [5, 10]) (by kernel_rfl) (by simp) (fun i hi => ?_)
          simp only [List.mem_cons, List.not_mem_nil, or_false] at hi
          rcases hi with rfl | rfl
          case' inl =>
            obtain ⟨A2, c2, w2, hrun, hR2, hO2, hk2⟩ := row_append_at (P := Tryd.prog) 26 Tryd.underlying26 (‹_› : Tryd.prog.info? 5 = some i0) hz0 hz1 hz2 rfl hE0 a1 (HRD _ hOE) (vbs_one _) hb1'.out hb2'.out
            rw [Nat.zero_add] at hrun hR2
            rw [List.nil_append] at hR2
            have hO2T : Only [W.heap.size, W.heap.size + 1, W.heap.size + 2] (W.alloc (.cells #[] 5)) w2 := hO2.more (by simp [rowT_some])
            refine op_make (v := .slice A2 n1 c2) (w1 := w2) rfl (by rfl) (exec_append rfl rfl rfl hrun) hO2T ?_
            simp only [List.getElem_toArray, List.getElem_cons_zero, List.getElem_cons_succ, Act.put, List.setIfInBounds_toArray, List.set_cons_zero, List.set_cons_succ]
            refine region_make 10 (v := .slice (some ⟨w2.heap.size, 0, none⟩) 1 1) (w1 := w2.alloc (.cells #[.int .u8 (x.toNat : Int)] 5)) (by kernel_rfl) rfl (by rfl) (by go_simp) ((Only.refl _ _).alloc _) ?_
            simp only [List.getElem_toArray, List.getElem_cons_zero, List.getElem_cons_succ, Act.put, List.setIfInBounds_toArray, List.set_cons_zero, List.set_cons_succ]
            have HS3 := Lib.hid (one_reads w2 5 (.int .u8 (x.toNat : Int)))
            have HR3 := Lib.hid (hR2.alloc (.cells #[.int .u8 (x.toNat : Int)] 5))
            have HO3 := Lib.hid ((hOE.trans hO2T).alloc (.cells #[.int .u8 (x.toNat : Int)] 5))
            have HK3 := Lib.hid (show ∀ k, k ∈ rowT A2 → k ∈ [W.heap.size, W.heap.size + 1, W.heap.size + 2] from fun k hk => by have := hk2 k hk; simp [rowT_some] at this ⊢; omega)
            clear hrun hR2 hO2 hk2 hO2T hE0 hOE
            generalize w2.alloc (.cells #[.int .u8 (x.toNat : Int)] 5) = w3 at *
          case' inr =>
            refine op_make (v := .slice (some ⟨W.heap.size + 1, 0, none⟩) 1 1) (w1 := (W.alloc (.cells #[] 5)).alloc (.cells #[.int .u8 (x.toNat : Int)] 5)) rfl (by rfl) (by go_simp) ((Only.refl _ _).alloc _) ?_
            simp only [List.getElem_toArray, List.getElem_cons_zero, List.getElem_cons_succ, Act.put, List.setIfInBounds_toArray, List.set_cons_zero, List.set_cons_succ]
            have hOE1 := hOE.alloc (.cells #[.int .u8 (x.toNat : Int)] 5)
            obtain ⟨A2, c2, w3, hrun, hR2, hO2, hk2⟩ := row_append_at (P := Tryd.prog) 26 Tryd.underlying26 (‹_› : Tryd.prog.info? 5 = some i0) hz0 hz1 hz2 rfl (hE0.alloc (.cells #[.int .u8 (x.toNat : Int)] 5)) a1 (HRD _ hOE1) (vbs_one _) hb1'.out hb2'.out
            rw [Nat.zero_add] at hrun hR2
            rw [List.nil_append] at hR2
            have hO2T : Only [W.heap.size, W.heap.size + 1, W.heap.size + 2] ((W.alloc (.cells #[] 5)).alloc (.cells #[.int .u8 (x.toNat : Int)] 5)) w3 := hO2.more (by simp [rowT_some])
            refine region_make 5 (v := .slice A2 n1 c2) (w1 := w3) (by kernel_rfl) rfl (by rfl) (exec_append rfl rfl rfl hrun) hO2T ?_
            simp only [List.getElem_toArray, List.getElem_cons_zero, List.getElem_cons_succ, Act.put, List.setIfInBounds_toArray, List.set_cons_zero, List.set_cons_succ]
            have hs0 := one_reads (W.alloc (.cells #[] 5)) 5 (.int .u8 (x.toNat : Int))
            rw [World.size_alloc] at hs0
            have HS3 := Lib.hid (hs0.only' hO2 (by simp) (by simp [rowT_some]))
            have HR3 := Lib.hid hR2
            have HO3 := Lib.hid (hOE1.trans hO2T)
            have HK3 := Lib.hid (show ∀ k, k ∈ rowT A2 → k ∈ [W.heap.size, W.heap.size + 1, W.heap.size + 2] from fun k hk => by have := hk2 k hk; simp [rowT_some] at this ⊢; omega)
            clear hrun hR2 hO2 hk2 hO2T hE0 hOE hOE1 hs0
        case' inr =>
          refine op_make (v := .slice (some ⟨W.heap.size, 0, none⟩) 1 1) (w1 := W.alloc (.cells #[.int .u8 (x.toNat : Int)] 5)) rfl (by rfl) (by go_simp) ((Only.refl _ _).alloc _) ?_
          simp only [List.getElem_toArray, List.getElem_cons_zero, List.getElem_cons_succ, Act.put, List.setIfInBounds_toArray, List.set_cons_zero, List.set_cons_succ]
          refine region_make 0 (v := .slice (some ⟨W.heap.size + 1, 0, none⟩) 0 0) (w1 := (W.alloc (.cells #[.int .u8 (x.toNat : Int)] 5)).alloc (.cells #[] 5)) (by kernel_rfl) rfl (by rfl) (by go_simp) ((Only.refl _ _).alloc _) ?_
          simp only [List.getElem_toArray, List.getElem_cons_zero, List.getElem_cons_succ, Act.put, List.setIfInBounds_toArray, List.set_cons_zero, List.set_cons_succ]
          have hE0 : RowAt ((W.alloc (.cells #[.int .u8 (x.toNat : Int)] 5)).alloc (.cells #[] 5)) 5 (some ⟨W.heap.size + 1, 0, none⟩) 0 0 [] := by
            have h1 := RowAt.of_blk (Blk.new (W.alloc (.cells #[.int .u8 (x.toNat : Int)] 5)) 5 []) (by simp)
            rw [World.size_alloc] at h1
            exact h1
          have hOE1 : Only [W.heap.size, W.heap.size + 1, W.heap.size + 2] W ((W.alloc (.cells #[.int .u8 (x.toNat : Int)] 5)).alloc (.cells #[] 5)) := ((Only.refl _ W).alloc _).alloc _
          obtain ⟨A2, c2, w3, hrun, hR2, hO2, hk2⟩ := row_append_at (P := Tryd.prog) 26 Tryd.underlying26 (‹_› : Tryd.prog.info? 5 = some i0) hz0 hz1 hz2 rfl hE0 a1 (HRD _ hOE1) (vbs_one _) hb1'.out hb2'.out
          rw [Nat.zero_add] at hrun hR2
          rw [List.nil_append] at hR2
          have hO2T : Only [W.heap.size, W.heap.size + 1, W.heap.size + 2] ((W.alloc (.cells #[.int .u8 (x.toNat : Int)] 5)).alloc (.cells #[] 5)) w3 := hO2.more (by simp [rowT_some])
          refine region_make 5 (v := .slice A2 n1 c2) (w1 := w3) (by kernel_rfl) rfl (by rfl) (exec_append rfl rfl rfl hrun) hO2T ?_
          simp only [List.getElem_toArray, List.getElem_cons_zero, List.getElem_cons_succ, Act.put, List.setIfInBounds_toArray, List.set_cons_zero, List.set_cons_succ]
          have hs0 := (one_reads W 5 (.int .u8 (x.toNat : Int))).only' ((Only.refl [] _).alloc (.cells #[] 5)) (by simp) (by simp)
          have HS3 := Lib.hid (hs0.only' hO2 (by simp) (by simp [rowT_some]))
          have HR3 := Lib.hid hR2
          have HO3 := Lib.hid (hOE1.trans hO2T)
          have HK3 := Lib.hid (show ∀ k, k ∈ rowT A2 → k ∈ [W.heap.size, W.heap.size + 1, W.heap.size + 2] from fun k hk => by have := hk2 k hk; simp [rowT_some] at this ⊢; omega)
          clear hrun hR2 hO2 hk2 hO2T hE0 hOE1 hs0
        all_goals
          have h1u := Lib.hid (one_int .u8 (x.toNat : Int))
          have hb3' := Lib.hid (show n1 + 1 ≤ maxLen by unfold maxLen; omega)
          have hb4' := Lib.hid (show (n1 + 1) * 1 ≤ 140737488355328 by omega)
          refine region_rowAppend 11 (by kernel_rfl) rfl (by rfl) (.tmp 25) (.tmp 30) 26 rfl 5 i0 _ 1 Tryd.underlying26 hi hz0 hz1 hz2 rfl A2 n1 c2 (vbs B1) rfl HR3.out _ _ 1 1 [.int .u8 (x.toNat : Int)] rfl HS3.out h1u.out hb3'.out hb4'.out (n1 + 1) rfl HK3.out ?_
          intro A4 c4 w4 HR4 hO4 HK4 hT4
          simp only [List.getElem_toArray, List.getElem_cons_zero, List.getElem_cons_succ, Act.put, List.setIfInBounds_toArray, List.set_cons_zero, List.set_cons_succ]
          have HRN : Hid (RowAt w4 5 A4 (n1 + 1) c4 (vbs (B1 ++ [x]))) := Lib.hid (by rw [vbs_append]; exact HR4.out)
          have HNEW : Hid (∀ k, k ∈ rowT A4 → W.heap.size ≤ k) := Lib.hid (fun k hk => by
            rcases HK4.out k hk with h | h
            · have := HK3.out k h; simp at this; omega
            · exact Nat.le_trans HO3.out.size h)
          have HO4 : Hid (Only [] W w4) := Lib.hid ((HO3.out.trans hT4).shed (by simp))
          clear hO4 hT4 HK4 HK3 HR4 HR3 HS3 HO3 h1u hb3' hb4' hb1' hb2' HRD hi hz0 hz1 hz2
          refine region_seg [false, false, false, false, false, false, false, false, false, false, false, false, true] 0 (by kernel_rfl) (by kernel_rfl) (by kernel_rfl) rfl (fun _ _ d _ _ h => by cases d <;> exact h) ?_
          repeat (first | with_reducible refine wpMask_pass ?_ | (refine wpMask_want (by rfl) (fun K hK => ?_); go_big_quiet_op; refine hK _ ?_; clear hK K))
          with_reducible refine wpMask_nil ?_
          refine region_end (by kernel_rfl) ?_
          have HOF := Lib.hid (refOf_c HRN.out.reads (Nat.le_refl _) HRN.out.le HRN.out.max (by omega))
          have HTW : Hid (Turned (Rd r B1 0) w T w4) := Lib.hid (turned_only (rd_thing _ _ _) HT1.out HO4.out)
          have HNW : Hid (∀ k, k ∈ rowT A4 → w.heap.size ≤ k) := Lib.hid (fun k hk => by
            have h1 := HNEW.out k hk
            obtain ⟨_, _, _, hO⟩ := HT1.out
            have := hO.size
            omega)
          have hlen : Hid ((B1 ++ [x]).length + (n - (i + 1)) ≤ 900000) := Lib.hid (by rw [List.length_append, List.length_singleton]; have := hl1.out; omega)
          have hlen2 : Hid (B1.length + (n - (i + 1)) ≤ 900000) := Lib.hid (by have := hl1.out; omega)
          clear HT1 HRW HNEW HO4 d0 d1 HB1 HR1 HN1 hT1 hl1
          cases hval : (ofL (B1 ++ [x])).valid with
          | true =>
            have hFy : Hid (feedR (B1 ++ [x]) 0 (b.drop (i + 1)) = (B', e')) := Lib.hid (by rw [← hFx.out, feedR, if_pos rfl, if_pos hval])
            clear hFx
            generalize ofL (B1 ++ [x]) = rs at HOF hval
            go_wp2_with (go_at_call 17; refine HOF.out.mono ?_; rintro e5 w5 ⟨P5, p5, S5, z5, rfl, _, _, _, _, hO5⟩; rw [hval]; have hfd := res_valid (.slice P5 rs.pay.length p5) (.slice S5 rs.sizes.length z5) (.bool rs.whole) (.bool rs.complete); have HT5 := Lib.hid (turned_only (rd_thing _ _ _) HTW.out hO5); have HR5 := Lib.hid (HRN.out.only hO5 (by simp)); obtain ⟨A5, a5, n5, hn5, hb5, hr5⟩ := HT5.out.rd; have t0 := hb5.cell 0; have f0 := hb5.free 0; simp only [List.getElem?_cons_zero] at t0; clear hb5 hr5 hO5 hn5)
            go_roundw
            case rel => exact ⟨i + 1, B1 ++ [x], 0, by omega, by go_num, hlen, Lib.hid (turned_next HT5.out HR5.out HNW.out), hFy⟩
            case measure => simp [intOf]; omega
          | false =>
            cases hcom : (ofL B1).complete with
            | true =>
              have hFy : Hid (feedR B1 8 (b.drop (i + 1)) = (B', e')) := Lib.hid (by rw [← hFx.out, feedR, if_pos rfl, if_neg (by rw [hval]; simp), if_pos hcom, feedR_err (by omega)])
              clear hFx
              have HCOM := Lib.hid hcom
              clear hcom
              generalize ofL (B1 ++ [x]) = rs at HOF hval
              go_wp2_with (first | (go_at_call 17; (with_reducible refine HOF.out.mono ?_); rintro e5 w5 ⟨P5, p5, S5, z5, rfl, _, _, _, _, hO5⟩; rw [hval]; have hfd := res_valid (.slice P5 rs.pay.length p5) (.slice S5 rs.sizes.length z5) (.bool rs.whole) (.bool rs.complete); have HT5 := Lib.hid (turned_only (rd_thing _ _ _) HTW.out hO5); have HT6 := Lib.hid (turned_rerr HT5.out 5); obtain ⟨A5, a5, n5, hn5, hb5, hr5⟩ := HT5.out.rd; have t0 := hb5.cell 0; have t1 := hb5.cell 1; have f1 := hb5.free 1; simp only [List.getElem?_cons_zero, List.getElem?_cons_succ] at t0 t1; have HOF2 := Lib.hid (refOf_c (hr5.far (p := ⟨r, 1, none⟩) (hr5.ne_blk hb5 (by decide)) (.int .i64 5)).reads (Nat.le_refl _) hr5.le hr5.max (by have := hlen2.out; omega)); clear hb5 hr5 hO5 hn5) | (go_at_call 17; (with_reducible refine HOF2.out.mono ?_); rintro e7 w7 ⟨P7, p7, S7, z7, rfl, _, _, _, _, hO7⟩; rw [HCOM.out]; have hfd2 := res_complete (.slice P7 (ofL B1).pay.length p7) (.slice S7 (ofL B1).sizes.length z7) (.bool (ofL B1).whole); have HT7 := Lib.hid (turned_only (rd_thing _ _ _) HT6.out hO7); obtain ⟨A7, a7, n7, hn7, hb7, hr7⟩ := HT7.out.rd; have u1 := hb7.cell 1; have g1 := hb7.free 1; simp only [List.getElem?_cons_zero, List.getElem?_cons_succ] at u1; clear hb7 hr7 hO7 hn7))
              go_roundw
              case rel => exact ⟨i + 1, B1, 8, by omega, by go_num, hlen2, Lib.hid (turned_rerr HT7.out 8), hFy⟩
              case measure => simp [intOf]; omega
            | false =>
              have hFy : Hid (feedR B1 5 (b.drop (i + 1)) = (B', e')) := Lib.hid (by rw [← hFx.out, feedR, if_pos rfl, if_neg (by rw [hval]; simp), if_neg (by rw [hcom]; simp), feedR_err (by omega)])
              clear hFx
              have HCOM := Lib.hid hcom
              clear hcom
              generalize ofL (B1 ++ [x]) = rs at HOF hval
              go_wp2_with (first | (go_at_call 17; (with_reducible refine HOF.out.mono ?_); rintro e5 w5 ⟨P5, p5, S5, z5, rfl, _, _, _, _, hO5⟩; rw [hval]; have hfd := res_valid (.slice P5 rs.pay.length p5) (.slice S5 rs.sizes.length z5) (.bool rs.whole) (.bool rs.complete); have HT5 := Lib.hid (turned_only (rd_thing _ _ _) HTW.out hO5); have HT6 := Lib.hid (turned_rerr HT5.out 5); obtain ⟨A5, a5, n5, hn5, hb5, hr5⟩ := HT5.out.rd; have t0 := hb5.cell 0; have t1 := hb5.cell 1; have f1 := hb5.free 1; simp only [List.getElem?_cons_zero, List.getElem?_cons_succ] at t0 t1; have HOF2 := Lib.hid (refOf_c (hr5.far (p := ⟨r, 1, none⟩) (hr5.ne_blk hb5 (by decide)) (.int .i64 5)).reads (Nat.le_refl _) hr5.le hr5.max (by have := hlen2.out; omega)); clear hb5 hr5 hO5 hn5) | (go_at_call 17; (with_reducible refine HOF2.out.mono ?_); rintro e7 w7 ⟨P7, p7, S7, z7, rfl, _, _, _, _, hO7⟩; rw [HCOM.out]; have hfd2 := res_complete (.slice P7 (ofL B1).pay.length p7) (.slice S7 (ofL B1).sizes.length z7) (.bool (ofL B1).whole); have HT7 := Lib.hid (turned_only (rd_thing _ _ _) HT6.out hO7); clear hO7))
              go_roundw
              case rel => exact ⟨i + 1, B1, 5, by omega, by go_num, hlen2, HT7, hFy⟩
              case measure => simp [intOf]; omega
      · have hne : ((e1 : Int) == 0) = false := by rw [beq_eq_false_iff_ne]; omega
        have hFy : Hid ((B1, e1) = (B', e')) := Lib.hid (by rw [← hFx.out, feedR_err he])
        clear hFx
        go_wp2
        go_ret
        simp only [Prod.mk.injEq] at hFy
        obtain ⟨rfl, rfl⟩ := hFy.out
        exact ⟨rfl, hT1.out⟩
    · obtain rfl : i = n := by omega
      have hFy : Hid ((B1, e1) = (B', e')) := Lib.hid (by rw [← hF1.out, List.drop_of_length_le (by rw [HBL.out]; exact Nat.le_refl _), feedR])
      clear hF1
      go_wp2
      go_ret
      simp only [Prod.mk.injEq] at hFy
      obtain ⟨rfl, rfl⟩ := hFy.out
      exact ⟨rfl, hT1.out⟩
end Go.Proofs.YtfchkaoifbcgkaaDoor
