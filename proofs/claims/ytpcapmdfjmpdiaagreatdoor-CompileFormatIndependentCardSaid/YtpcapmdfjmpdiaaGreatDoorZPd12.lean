/-
  Contract: the program's node, out of its list.
  Contract: the program's node at a block, out of its list.
-/
import Derived.Test.YtpcapmdfjmpdiaaGreatDoorZPf12
namespace Go.Proofs.YtpcapmdfjmpdiaaGreatDoor
open Go.RowKit Go.BigFrame NT
set_option linter.unusedVariables false
set_option linter.unusedSimpArgs false
attribute [local go_sem ↓] sliced_cut run_min2 run_max2
attribute [local go_sem] cutA_zero

/-- How node ends. -/
def NodePq (g : Nat) (A : Option Addr) (r : List Tok) (w : World) (res : NXR) (e : Ending) (w' : World) : Prop := Only [g] w w' ∧ match res with
  | .error (a, k) => e = pan a k
  | .ok (x, r', c) => ∃ y : NT, y.er = x ∧ y.In w' (Fr w w') ∧ e = .returned (nval y.k y.a y.s y.p y.h y.e y.A y.b.length y.c y.B y.l.length y.d) ∧ (∃ A' cA', Pq w' g A' cA' r' c ∧ rowT A' = rowT A) ∧ ∃ k, r' = r.drop k
def NodeQ (g n : Nat) : Prop := ∀ (A : Option Addr) (cA : Nat) (t : Tok) (r : List Tok) (d c : Nat) (w : World), Pq w g A cA (t :: r) c → TsOk (t :: r) → r.length ≤ n → d ≤ 32 → c ≤ 4096 →
  Calls Tryz.prog 55 #[.pointer (some ⟨g, 0, none⟩), .int .i64 d] w (NodePq g A r w (NX t r d c))
theorem doneN {f : Func} (hf : f.results = #[.cell 4 69]) {tmps : Array Value} {b : Nat} {v0 v1 v2 v3 v4 v5 v6 v7 : Value} {W : World} (hp : tmps.getD 4 undef = .pointer (some ⟨b, 0, none⟩))
    (hB : Blk W b 69 [v0, v1, v2, v3, v4, v5, v6, v7]) : (results f tmps).run Tryz.prog W = .ok (.agg #[v0, v1, v2, v3, v4, v5, v6, v7]) W := by
  have hp' : tmps[4]?.getD undef = .pointer (some ⟨b, 0, none⟩) := by simpa using hp
  have hl := run_loadVar_row W b 69 #[v0, v1, v2, v3, v4, v5, v6, v7] (0, 0) _ (P := Tryz.prog) (ty := 69) hB Tryz.underlying69 rfl (by kernel_rfl)
  simp [results, hf, hp', asAddr, hl]
set_option maxRecDepth 100000 in
set_option maxHeartbeats 3200000 in
theorem pnode_leaf (g : Nat) (A : Option Addr) (cA : Nat) (t : Tok) (r : List Tok) (d c : Nat) (w : World) (hP : Pq w g A cA (t :: r) c) (hG : TsOk (t :: r)) (hd : d ≤ 32) (hc : c ≤ 4096) (hb : blk t.k = false) :
    Calls Tryz.prog 55 #[.pointer (some ⟨g, 0, none⟩), .int .i64 d] w (NodePq g A r w (NX t r d c)) := by
  have htk := hG.2 t (by simp)
  have HG := Lib.hid hG
  have hgl := hP.blk.lt
  have HP := Lib.hid hP
  have hle := hP.row.le
  have hmx := hP.row.max
  unfold maxLen at hmx
  obtain ⟨q0, q1⟩ := hP.cells
  obtain ⟨f0, f1⟩ := hP.frees
  obtain ⟨g1, o1, rfl, hg1, c0, c1, c2, c3, c4⟩ := hP.tok
  simp only [List.length_cons] at q0 hle
  have e1 : ¬ g = w.heap.size := by omega
  have e2 : ¬ g1 = w.heap.size := by omega
  have e3 : ¬ g = w.heap.size + 1 := by omega
  have e4 : ¬ w.heap.size = g := by omega
  have e5 : ¬ w.heap.size + 1 = g := by omega
  have hsz1 : (ofL t.s).size ≤ reachBytes := by have := htk.2.2.1; show t.s.length ≤ reachBytes; unfold reachBytes; omega
  have hsz2 : (ofL t.p).size ≤ reachBytes := by have := htk.2.2.2; show t.p.length ≤ reachBytes; unfold reachBytes; omega
  have HBL := Lib.hid isBlock_c
  have hnn : ¬ (t.k = 6 ∧ 0 < d ∨ blk t.k = true ∧ 32 ≤ d) := by rintro (⟨h, _⟩ | ⟨h, _⟩) <;> rw [h] at hb <;> cases hb
  have HNN := Lib.hid hnn
  have HKB := Lib.hid hb
  have k6 : ((t.k : Int) == 6) = false := by
    rw [beq_eq_false_iff_ne]
    intro h
    have h6 : t.k = 6 := by omega
    rw [h6] at hb; cases hb
  have HCB : Hid (blkI (t.k : Int) = false) := Lib.hid (by rw [blkI_nat]; exact hb)
  clear hP hG hb hnn
  by_cases h4 : c = 4096
  · have hcb : ((c : Int) == 4096) = true := by subst h4; rfl
    have HC4 := Lib.hid h4
    clear h4
    go_enter Tryz.func55, Tryz.ntmps55
    go_wp2_with (go_at_call 81; ((with_reducible refine (HBL.out _ _).mono ?_); rintro e w0 ⟨rfl, hw⟩; obtain rfl := hw.symm; rw [HCB.out]))
    refine ⟨rfl, ?_⟩
    unfold NX
    rw [if_neg HNN.out, if_pos (by have := HC4.out; omega)]
    exact ⟨((Only.refl [g] w).alloc _).alloc _, rfl⟩
  · have hcb : ((c : Int) == 4096) = false := by rw [beq_eq_false_iff_ne]; omega
    have hc4 : c < 4096 := by omega
    clear h4
    go_enter Tryz.func55, Tryz.ntmps55
    go_wp2_with (go_at_call 81; ((with_reducible refine (HBL.out _ _).mono ?_); rintro e w0 ⟨rfl, hw⟩; obtain rfl := hw.symm; rw [HCB.out]))
    have hXP : Pq ((w.setCell ⟨g, 0, none⟩ (.slice (cutA cA 1 5 (some ⟨g1, o1, none⟩)) r.length (cA - 1))).setCell ⟨g, 1, none⟩ (.int .i64 ((c : Int) + 1))) g (cutA cA 1 5 (some ⟨g1, o1, none⟩)) (cA - 1) r (c + 1) := HP.out.take.count (c + 1)
    have hXO : Only [g] w ((w.setCell ⟨g, 0, none⟩ (.slice (cutA cA 1 5 (some ⟨g1, o1, none⟩)) r.length (cA - 1))).setCell ⟨g, 1, none⟩ (.int .i64 ((c : Int) + 1))) := ((Only.refl [g] w).setCell (.inl (by simp)) _).setCell (.inl (by simp)) _
    have hXS : ((w.setCell ⟨g, 0, none⟩ (.slice (cutA cA 1 5 (some ⟨g1, o1, none⟩)) r.length (cA - 1))).setCell ⟨g, 1, none⟩ (.int .i64 ((c : Int) + 1))).heap.size = w.heap.size := by simp [World.setCell]
    have hB := ((Blk.new ((w.setCell ⟨g, 0, none⟩ (.slice (cutA cA 1 5 (some ⟨g1, o1, none⟩)) r.length (cA - 1))).setCell ⟨g, 1, none⟩ (.int .i64 ((c : Int) + 1))) 69 [.int .i64 t.k, .int .i64 t.a, .string (ofL t.s), .string (ofL t.p), .bool t.h, .bool false, .slice none 0 0, .slice none 0 0]).alloc (.cells #[.int .i64 t.k, .int .i64 t.a, .string (ofL t.s), .string (ofL t.p), .bool t.h] 64)).alloc (.cells #[.int .i64 t.k, .int .i64 t.a, .string (ofL t.s), .string (ofL t.p), .bool t.h, .bool false, .slice none 0 0, .slice none 0 0] 69)
    rw [hXS] at hB
    refine bodyPost_ret (doneN rfl rfl hB) rfl ?_
    unfold NX
    rw [if_neg HNN.out, if_neg (by omega), if_pos HKB.out]
    refine ⟨((hXO.alloc _).alloc _).alloc _, .mk t.k t.a (ofL t.s) (ofL t.p) t.h false none 0 [] none 0 [], by simp [NT.er, nd, NT.ers], ?_, rfl, ⟨_, _, hXP.only (S := []) ((((Only.refl [] _).alloc _).alloc _).alloc _) (by simp) (by simp), by rw [rowT_cut]⟩, 0, by simp⟩
    exact .mk _ (by constructor <;> (simp only [NT.k]; omega)) (by constructor <;> (simp only [NT.a]; omega)) (by simp only [NT.s]; exact hsz1) (by simp only [NT.p]; exact hsz2) (Row.nil _ _).1 (Row.nil _ _).1 (fun x hx => by cases hx) (fun x hx => by cases hx)
set_option maxRecDepth 100000 in
set_option maxHeartbeats 3200000 in
theorem pnode_define (g : Nat) (A : Option Addr) (cA : Nat) (t : Tok) (r : List Tok) (d c : Nat) (w : World) (hP : Pq w g A cA (t :: r) c) (hG : TsOk (t :: r)) (hd : d ≤ 32) (hc : c ≤ 4096) (h6 : t.k = 6) (h0 : 0 < d) :
    Calls Tryz.prog 55 #[.pointer (some ⟨g, 0, none⟩), .int .i64 d] w (NodePq g A r w (NX t r d c)) := by
  have htk := hG.2 t (by simp)
  have HG := Lib.hid hG
  have hgl := hP.blk.lt
  have HP := Lib.hid hP
  have hle := hP.row.le
  have hmx := hP.row.max
  unfold maxLen at hmx
  obtain ⟨q0, q1⟩ := hP.cells
  obtain ⟨f0, f1⟩ := hP.frees
  obtain ⟨g1, o1, rfl, hg1, c0, c1, c2, c3, c4⟩ := hP.tok
  simp only [List.length_cons] at q0 hle
  have e1 : ¬ g = w.heap.size := by omega
  have e2 : ¬ g1 = w.heap.size := by omega
  have e3 : ¬ g = w.heap.size + 1 := by omega
  have e4 : ¬ w.heap.size = g := by omega
  have e5 : ¬ w.heap.size + 1 = g := by omega
  have hsz1 : (ofL t.s).size ≤ reachBytes := by have := htk.2.2.1; show t.s.length ≤ reachBytes; unfold reachBytes; omega
  have hsz2 : (ofL t.p).size ≤ reachBytes := by have := htk.2.2.2; show t.p.length ≤ reachBytes; unfold reachBytes; omega
  have HBL := Lib.hid isBlock_c
  have HNN : Hid (t.k = 6 ∧ 0 < d ∨ blk t.k = true ∧ 32 ≤ d) := Lib.hid (.inl ⟨h6, h0⟩)
  have k6 : ((t.k : Int) == 6) = true := by rw [h6]; rfl
  have hd0 : (0 : Int) < (d : Int) := by omega
  clear hP hG h6
  go_enter Tryz.func55, Tryz.ntmps55
  go_wp2_with fail
  refine ⟨rfl, ?_⟩
  unfold NX
  rw [if_pos HNN.out]
  exact ⟨((Only.refl [g] w).alloc _).alloc _, rfl⟩
set_option maxRecDepth 100000 in
set_option maxHeartbeats 3200000 in
theorem pnode_deep (g : Nat) (A : Option Addr) (cA : Nat) (t : Tok) (r : List Tok) (d c : Nat) (w : World) (hP : Pq w g A cA (t :: r) c) (hG : TsOk (t :: r)) (hd : d ≤ 32) (hc : c ≤ 4096) (h6 : t.k ≠ 6) (hb : blk t.k = true) (h0 : 32 ≤ d) :
    Calls Tryz.prog 55 #[.pointer (some ⟨g, 0, none⟩), .int .i64 d] w (NodePq g A r w (NX t r d c)) := by
  have htk := hG.2 t (by simp)
  have HG := Lib.hid hG
  have hgl := hP.blk.lt
  have HP := Lib.hid hP
  have hle := hP.row.le
  have hmx := hP.row.max
  unfold maxLen at hmx
  obtain ⟨q0, q1⟩ := hP.cells
  obtain ⟨f0, f1⟩ := hP.frees
  obtain ⟨g1, o1, rfl, hg1, c0, c1, c2, c3, c4⟩ := hP.tok
  simp only [List.length_cons] at q0 hle
  have e1 : ¬ g = w.heap.size := by omega
  have e2 : ¬ g1 = w.heap.size := by omega
  have e3 : ¬ g = w.heap.size + 1 := by omega
  have e4 : ¬ w.heap.size = g := by omega
  have e5 : ¬ w.heap.size + 1 = g := by omega
  have hsz1 : (ofL t.s).size ≤ reachBytes := by have := htk.2.2.1; show t.s.length ≤ reachBytes; unfold reachBytes; omega
  have hsz2 : (ofL t.p).size ≤ reachBytes := by have := htk.2.2.2; show t.p.length ≤ reachBytes; unfold reachBytes; omega
  have HBL := Lib.hid isBlock_c
  have HNN : Hid (t.k = 6 ∧ 0 < d ∨ blk t.k = true ∧ 32 ≤ d) := Lib.hid (.inr ⟨hb, h0⟩)
  have k6 : ((t.k : Int) == 6) = false := by rw [beq_eq_false_iff_ne]; omega
  have hd0 : ((d : Int) == 32) = true := by
    have : d = 32 := by omega
    rw [this]; rfl
  have HCB : Hid (blkI (t.k : Int) = true) := Lib.hid (by rw [blkI_nat]; exact hb)
  clear hP hG h6 hb
  go_enter Tryz.func55, Tryz.ntmps55
  go_wp2_with (go_at_call 81; ((with_reducible refine (HBL.out _ _).mono ?_); rintro e w0 ⟨rfl, hw⟩; obtain rfl := hw.symm; rw [HCB.out]))
  refine ⟨rfl, ?_⟩
  unfold NX
  rw [if_pos HNN.out]
  exact ⟨((Only.refl [g] w).alloc _).alloc _, rfl⟩
end Go.Proofs.YtpcapmdfjmpdiaaGreatDoor

namespace Go.Proofs.YtpcapmdfjmpdiaaGreatDoor
open Go.RowKit Go.BigFrame NT
set_option linter.unusedVariables false
set_option linter.unusedSimpArgs false
attribute [local go_sem ↓] sliced_cut run_min2 run_max2
attribute [local go_sem] cutA_zero

set_option maxRecDepth 100000 in
set_option maxHeartbeats 3200000 in
theorem pnode_six (g : Nat) (A : Option Addr) (cA : Nat) (t : Tok) (r : List Tok) (d c : Nat) (w : World) (hP : Pq w g A cA (t :: r) c) (hG : TsOk (t :: r)) (hd : d ≤ 32) (hc : c ≤ 4096) (hnn : ¬ (t.k = 6 ∧ 0 < d ∨ blk t.k = true ∧ 32 ≤ d)) (hb : blk t.k = true) (h6 : t.k = 6) (n : Nat) (IH : ListQ g n) (hn : r.length ≤ n) :
    Calls Tryz.prog 55 #[.pointer (some ⟨g, 0, none⟩), .int .i64 d] w (NodePq g A r w (NX t r d c)) := by
  have htk := hG.2 t (by simp)
  have HG := Lib.hid hG
  have hgl := hP.blk.lt
  have HP := Lib.hid hP
  have hle := hP.row.le
  have hmx := hP.row.max
  unfold maxLen at hmx
  obtain ⟨q0, q1⟩ := hP.cells
  obtain ⟨f0, f1⟩ := hP.frees
  obtain ⟨g1, o1, rfl, hg1, c0, c1, c2, c3, c4⟩ := hP.tok
  simp only [List.length_cons] at q0 hle
  have e1 : ¬ g = w.heap.size := by omega
  have e2 : ¬ g1 = w.heap.size := by omega
  have e3 : ¬ g = w.heap.size + 1 := by omega
  have e4 : ¬ w.heap.size = g := by omega
  have e5 : ¬ w.heap.size + 1 = g := by omega
  have hsz1 : (ofL t.s).size ≤ reachBytes := by have := htk.2.2.1; show t.s.length ≤ reachBytes; unfold reachBytes; omega
  have hsz2 : (ofL t.p).size ≤ reachBytes := by have := htk.2.2.2; show t.p.length ≤ reachBytes; unfold reachBytes; omega
  have HBL := Lib.hid isBlock_c
  have HNN := Lib.hid hnn
  have HKB := Lib.hid hb
  have hd2 : d < 32 := by
    rcases Nat.lt_or_ge d 32 with h | h
    · exact h
    · exact absurd (.inr ⟨hb, h⟩) hnn
  have hd32 : ((d : Int) == 32) = false := by rw [beq_eq_false_iff_ne]; omega
  have HCB : Hid (blkI (t.k : Int) = true) := Lib.hid (by rw [blkI_nat]; exact hb)
  have HIH := Lib.hid IH
  have HN := Lib.hid hn
  have k6 : ((t.k : Int) == 6) = true := by rw [h6]; rfl
  have hd0 : ¬ (0 : Int) < (d : Int) := by intro h; exact hnn (.inl ⟨h6, by omega⟩)
  clear hP hG hb hnn IH hn h6
  by_cases h4 : c = 4096
  · have hcb : ((c : Int) == 4096) = true := by subst h4; rfl
    have HC4 := Lib.hid h4
    clear h4
    go_enter Tryz.func55, Tryz.ntmps55
    go_wp2_with (go_at_call 81; ((with_reducible refine (HBL.out _ _).mono ?_); rintro e w0 ⟨rfl, hw⟩; obtain rfl := hw.symm; rw [HCB.out]))
    refine ⟨rfl, ?_⟩
    unfold NX
    rw [if_neg HNN.out, if_pos (by have := HC4.out; omega)]
    exact ⟨((Only.refl [g] w).alloc _).alloc _, rfl⟩
  · have hcb : ((c : Int) == 4096) = false := by rw [beq_eq_false_iff_ne]; omega
    have hc4 : c < 4096 := by omega
    clear h4
    go_enter Tryz.func55, Tryz.ntmps55
    go_wp2_with (go_at_call 81; ((with_reducible refine (HBL.out _ _).mono ?_); rintro e w0 ⟨rfl, hw⟩; obtain rfl := hw.symm; rw [HCB.out]))
    have hXP : Pq ((w.setCell ⟨g, 0, none⟩ (.slice (cutA cA 1 5 (some ⟨g1, o1, none⟩)) r.length (cA - 1))).setCell ⟨g, 1, none⟩ (.int .i64 ((c : Int) + 1))) g (cutA cA 1 5 (some ⟨g1, o1, none⟩)) (cA - 1) r (c + 1) := HP.out.take.count (c + 1)
    have hXO : Only [g] w ((w.setCell ⟨g, 0, none⟩ (.slice (cutA cA 1 5 (some ⟨g1, o1, none⟩)) r.length (cA - 1))).setCell ⟨g, 1, none⟩ (.int .i64 ((c : Int) + 1))) := ((Only.refl [g] w).setCell (.inl (by simp)) _).setCell (.inl (by simp)) _
    have hXS : ((w.setCell ⟨g, 0, none⟩ (.slice (cutA cA 1 5 (some ⟨g1, o1, none⟩)) r.length (cA - 1))).setCell ⟨g, 1, none⟩ (.int .i64 ((c : Int) + 1))).heap.size = w.heap.size := by simp [World.setCell]
    have hZ : Blk (((((w.setCell ⟨g, 0, none⟩ (.slice (cutA cA 1 5 (some ⟨g1, o1, none⟩)) r.length (cA - 1))).setCell ⟨g, 1, none⟩ (.int .i64 ((c : Int) + 1))).alloc (.cells #[.int .i64 0, .int .i64 0, .string ⟨#[]⟩, .string ⟨#[]⟩, .bool false, .bool false, .slice none 0 0, .slice none 0 0] 69)).alloc (.cells #[.int .i64 t.k, .int .i64 t.a, .string (ofL t.s), .string (ofL t.p), .bool t.h] 64)).alloc (.cells #[.int .i64 t.k, .int .i64 t.a, .string (ofL t.s), .string (ofL t.p), .bool t.h, .bool false, .slice none 0 0, .slice none 0 0] 69)) w.heap.size 69 [.int .i64 0, .int .i64 0, .string ⟨#[]⟩, .string ⟨#[]⟩, .bool false, .bool false, .slice none 0 0, .slice none 0 0] := by
      have h := ((Blk.new ((w.setCell ⟨g, 0, none⟩ (.slice (cutA cA 1 5 (some ⟨g1, o1, none⟩)) r.length (cA - 1))).setCell ⟨g, 1, none⟩ (.int .i64 ((c : Int) + 1))) 69 [.int .i64 0, .int .i64 0, .string ⟨#[]⟩, .string ⟨#[]⟩, .bool false, .bool false, .slice none 0 0, .slice none 0 0]).alloc (.cells #[.int .i64 t.k, .int .i64 t.a, .string (ofL t.s), .string (ofL t.p), .bool t.h] 64)).alloc (.cells #[.int .i64 t.k, .int .i64 t.a, .string (ofL t.s), .string (ofL t.p), .bool t.h, .bool false, .slice none 0 0, .slice none 0 0] 69)
      rw [hXS] at h
      exact h
    have hNB : Blk (((((w.setCell ⟨g, 0, none⟩ (.slice (cutA cA 1 5 (some ⟨g1, o1, none⟩)) r.length (cA - 1))).setCell ⟨g, 1, none⟩ (.int .i64 ((c : Int) + 1))).alloc (.cells #[.int .i64 0, .int .i64 0, .string ⟨#[]⟩, .string ⟨#[]⟩, .bool false, .bool false, .slice none 0 0, .slice none 0 0] 69)).alloc (.cells #[.int .i64 t.k, .int .i64 t.a, .string (ofL t.s), .string (ofL t.p), .bool t.h] 64)).alloc (.cells #[.int .i64 t.k, .int .i64 t.a, .string (ofL t.s), .string (ofL t.p), .bool t.h, .bool false, .slice none 0 0, .slice none 0 0] 69)) (w.heap.size + 1 + 1) 69 [.int .i64 t.k, .int .i64 t.a, .string (ofL t.s), .string (ofL t.p), .bool t.h, .bool false, .slice none 0 0, .slice none 0 0] := by
      have h := Blk.new ((((w.setCell ⟨g, 0, none⟩ (.slice (cutA cA 1 5 (some ⟨g1, o1, none⟩)) r.length (cA - 1))).setCell ⟨g, 1, none⟩ (.int .i64 ((c : Int) + 1))).alloc (.cells #[.int .i64 0, .int .i64 0, .string ⟨#[]⟩, .string ⟨#[]⟩, .bool false, .bool false, .slice none 0 0, .slice none 0 0] 69)).alloc (.cells #[.int .i64 t.k, .int .i64 t.a, .string (ofL t.s), .string (ofL t.p), .bool t.h] 64)) 69 [.int .i64 t.k, .int .i64 t.a, .string (ofL t.s), .string (ofL t.p), .bool t.h, .bool false, .slice none 0 0, .slice none 0 0]
      rw [show ((((w.setCell ⟨g, 0, none⟩ (.slice (cutA cA 1 5 (some ⟨g1, o1, none⟩)) r.length (cA - 1))).setCell ⟨g, 1, none⟩ (.int .i64 ((c : Int) + 1))).alloc (.cells #[.int .i64 0, .int .i64 0, .string ⟨#[]⟩, .string ⟨#[]⟩, .bool false, .bool false, .slice none 0 0, .slice none 0 0] 69)).alloc (.cells #[.int .i64 t.k, .int .i64 t.a, .string (ofL t.s), .string (ofL t.p), .bool t.h] 64)).heap.size = w.heap.size + 1 + 1 by simp [World.setCell]] at h
      exact h
    have hPW := hXP.only (w' := (((((w.setCell ⟨g, 0, none⟩ (.slice (cutA cA 1 5 (some ⟨g1, o1, none⟩)) r.length (cA - 1))).setCell ⟨g, 1, none⟩ (.int .i64 ((c : Int) + 1))).alloc (.cells #[.int .i64 0, .int .i64 0, .string ⟨#[]⟩, .string ⟨#[]⟩, .bool false, .bool false, .slice none 0 0, .slice none 0 0] 69)).alloc (.cells #[.int .i64 t.k, .int .i64 t.a, .string (ofL t.s), .string (ofL t.p), .bool t.h] 64)).alloc (.cells #[.int .i64 t.k, .int .i64 t.a, .string (ofL t.s), .string (ofL t.p), .bool t.h, .bool false, .slice none 0 0, .slice none 0 0] 69))) (S := []) ((((Only.refl [] _).alloc _).alloc _).alloc _) (by simp) (by simp)
    have HOW : Hid (Only [g] w (((((w.setCell ⟨g, 0, none⟩ (.slice (cutA cA 1 5 (some ⟨g1, o1, none⟩)) r.length (cA - 1))).setCell ⟨g, 1, none⟩ (.int .i64 ((c : Int) + 1))).alloc (.cells #[.int .i64 0, .int .i64 0, .string ⟨#[]⟩, .string ⟨#[]⟩, .bool false, .bool false, .slice none 0 0, .slice none 0 0] 69)).alloc (.cells #[.int .i64 t.k, .int .i64 t.a, .string (ofL t.s), .string (ofL t.p), .bool t.h] 64)).alloc (.cells #[.int .i64 t.k, .int .i64 t.a, .string (ofL t.s), .string (ofL t.p), .bool t.h, .bool false, .slice none 0 0, .slice none 0 0] 69))) := Lib.hid (((hXO.alloc _).alloc _).alloc _)
    have hWS : (((((w.setCell ⟨g, 0, none⟩ (.slice (cutA cA 1 5 (some ⟨g1, o1, none⟩)) r.length (cA - 1))).setCell ⟨g, 1, none⟩ (.int .i64 ((c : Int) + 1))).alloc (.cells #[.int .i64 0, .int .i64 0, .string ⟨#[]⟩, .string ⟨#[]⟩, .bool false, .bool false, .slice none 0 0, .slice none 0 0] 69)).alloc (.cells #[.int .i64 t.k, .int .i64 t.a, .string (ofL t.s), .string (ofL t.p), .bool t.h] 64)).alloc (.cells #[.int .i64 t.k, .int .i64 t.a, .string (ofL t.s), .string (ofL t.p), .bool t.h, .bool false, .slice none 0 0, .slice none 0 0] 69)).heap.size = w.heap.size + 3 := by simp [World.setCell]
    have HRA : Hid (∀ k, k ∈ rowT (cutA cA 1 5 (some (⟨g1, o1, none⟩ : Addr))) → k < w.heap.size) := Lib.hid (fun k hk => by rw [rowT_cut, rowT_some] at hk; simp at hk; omega)
    have hfl := fill_c HIH.out (w.heap.size + 1 + 1) (cutA cA 1 5 (some ⟨g1, o1, none⟩)) (cA - 1) t r (d + 1) (c + 1) _ hPW HG.out.tail HN.out (by omega) (by omega) hNB (by omega) (fun hk => by have := HRA.out _ hk; omega)
    have HZ := Lib.hid hZ
    clear hXP hXO hXS hNB hPW hZ
    generalize (((((w.setCell ⟨g, 0, none⟩ (.slice (cutA cA 1 5 (some ⟨g1, o1, none⟩)) r.length (cA - 1))).setCell ⟨g, 1, none⟩ (.int .i64 ((c : Int) + 1))).alloc (.cells #[.int .i64 0, .int .i64 0, .string ⟨#[]⟩, .string ⟨#[]⟩, .bool false, .bool false, .slice none 0 0, .slice none 0 0] 69)).alloc (.cells #[.int .i64 t.k, .int .i64 t.a, .string (ofL t.s), .string (ofL t.p), .bool t.h] 64)).alloc (.cells #[.int .i64 t.k, .int .i64 t.a, .string (ofL t.s), .string (ofL t.p), .bool t.h, .bool false, .slice none 0 0, .slice none 0 0] 69)) = X at hfl HZ HOW hWS ⊢
    refine hfl.mono ?_
    rintro e w1 ⟨hO, hp⟩
    have hs1 : X.heap.size ≤ w1.heap.size := hO.size
    have HO1 : Hid (Only [g] w w1) := Lib.hid (HOW.out.join hO (fun k hk => by simp at hk; rcases hk with rfl | rfl; exact .inl (by simp); exact .inr (by omega)))
    have HZ1 := Lib.hid (HZ.out.only hO (by simp only [List.mem_cons, List.not_mem_nil, or_false, not_or]; exact ⟨e4, by omega⟩))
    clear hO hfl HOW HZ
    cases hres : FX t r (d + 1) (c + 1) with
    | error ak =>
      obtain ⟨a, k⟩ := ak
      rw [hres] at hp
      dsimp only at hp
      subst hp
      have HRES := Lib.hid hres
      clear hres
      go_wp2_with fail
      refine ⟨rfl, ?_⟩
      rw [NX_fx HNN.out hc4 HKB.out, HRES.out]
      exact ⟨HO1.out, rfl⟩
    | ok y =>
      obtain ⟨eh, x, l, r', c'⟩ := y
      rw [hres] at hp
      obtain ⟨rfl, B, cB, m, D, cD, q, hers, hers2, hrow, hrow2, hblk, ⟨A', cA', hP', hA'⟩, k, hk⟩ := hp
      have HRES := Lib.hid hres
      have HE := Lib.hid hers
      have HE2 := Lib.hid hers2
      have HR := Lib.hid hrow
      have HR2 := Lib.hid hrow2
      have HB := Lib.hid hblk
      have HP1 := Lib.hid hP'
      have HA' := Lib.hid hA'
      have HK := Lib.hid hk
      obtain ⟨x0, x1, x2, x3, x4, x5, x6, x7⟩ := cells8 HB.out
      obtain ⟨z0, z1, z2, z3, z4, z5, z6, z7⟩ := cells8 HZ1.out
      have u0 := HZ1.out.free 0
      have u1 := HZ1.out.free 1
      have u2 := HZ1.out.free 2
      have u3 := HZ1.out.free 3
      have u4 := HZ1.out.free 4
      have u5 := HZ1.out.free 5
      have u6 := HZ1.out.free 6
      have u7 := HZ1.out.free 7
      clear hres hers hers2 hrow hrow2 hblk hP' hA' hk q0 q1 f0 f1 c0 c1 c2 c3 c4
      go_wp2_with fail
      have ho : Only [w.heap.size] w1 ((((((((w1.setCell ⟨w.heap.size, 0, none⟩ (.int .i64 t.k)).setCell ⟨w.heap.size, 1, none⟩ (.int .i64 t.a)).setCell ⟨w.heap.size, 2, none⟩ (.string (ofL t.s))).setCell ⟨w.heap.size, 3, none⟩ (.string (ofL t.p))).setCell ⟨w.heap.size, 4, none⟩ (.bool t.h)).setCell ⟨w.heap.size, 5, none⟩ (.bool eh)).setCell ⟨w.heap.size, 6, none⟩ (.slice B m.length cB)).setCell ⟨w.heap.size, 7, none⟩ (.slice D q.length cD)) := only8 w1 w.heap.size _ _ _ _ _ _ _ _
      have hb8 : Blk ((((((((w1.setCell ⟨w.heap.size, 0, none⟩ (.int .i64 t.k)).setCell ⟨w.heap.size, 1, none⟩ (.int .i64 t.a)).setCell ⟨w.heap.size, 2, none⟩ (.string (ofL t.s))).setCell ⟨w.heap.size, 3, none⟩ (.string (ofL t.p))).setCell ⟨w.heap.size, 4, none⟩ (.bool t.h)).setCell ⟨w.heap.size, 5, none⟩ (.bool eh)).setCell ⟨w.heap.size, 6, none⟩ (.slice B m.length cB)).setCell ⟨w.heap.size, 7, none⟩ (.slice D q.length cD)) w.heap.size 69 [.int .i64 t.k, .int .i64 t.a, .string (ofL t.s), .string (ofL t.p), .bool t.h, .bool eh, .slice B m.length cB, .slice D q.length cD] := set8 HZ1.out _ _ _ _ _ _ _ _
      clear x0 x1 x2 x3 x4 x5 x6 x7 z0 z1 z2 z3 z4 z5 z6 z7 u0 u1 u2 u3 u4 u5 u6 u7
      generalize ((((((((w1.setCell ⟨w.heap.size, 0, none⟩ (.int .i64 t.k)).setCell ⟨w.heap.size, 1, none⟩ (.int .i64 t.a)).setCell ⟨w.heap.size, 2, none⟩ (.string (ofL t.s))).setCell ⟨w.heap.size, 3, none⟩ (.string (ofL t.p))).setCell ⟨w.heap.size, 4, none⟩ (.bool t.h)).setCell ⟨w.heap.size, 5, none⟩ (.bool eh)).setCell ⟨w.heap.size, 6, none⟩ (.slice B m.length cB)).setCell ⟨w.heap.size, 7, none⟩ (.slice D q.length cD)) = w2 at ho hb8 ⊢
      have hs8 : w1.heap.size ≤ w2.heap.size := ho.size
      have hR : Row w2 (Fr w w2) B cB m := HR.out.onlyS ho (fun z hz => ⟨by have := hz.1; simp; omega, hz.2⟩) (fun z hz => ⟨by have := hz.1; omega, by have := hz.2; omega⟩)
      have hR2 : Row w2 (Fr w w2) D cD q := HR2.out.onlyS ho (fun z hz => ⟨by have := hz.1; simp; omega, hz.2⟩) (fun z hz => ⟨by have := hz.1; omega, by have := hz.2; omega⟩)
      have hO2 : Only [g] w w2 := HO1.out.join ho (fun k hk => .inr (by simp at hk; omega))
      have hP2 : Pq w2 g A' cA' r' c' := HP1.out.only ho (by simp; exact e1) (fun k hk => by rw [HA'.out] at hk; have := HRA.out k hk; simp; omega)
      have HR3 := Lib.hid hR
      have HR4 := Lib.hid hR2
      have HO2 := Lib.hid hO2
      have HP2 := Lib.hid hP2
      clear hR hR2 hO2 hP2 ho
      refine bodyPost_ret (doneN rfl rfl hb8) rfl ?_
      rw [NX_fx HNN.out hc4 HKB.out, HRES.out]
      dsimp only
      refine ⟨HO2.out, .mk t.k t.a (ofL t.s) (ofL t.p) t.h eh B cB m D cD q, by simp only [NT.er, nd]; rw [HE.out, HE2.out], ?_, rfl, ⟨A', cA', HP2.out, by rw [HA'.out, rowT_cut]⟩, k, HK.out⟩
      exact .mk _ (by constructor <;> (simp only [NT.k]; omega)) (by constructor <;> (simp only [NT.a]; omega)) (by simp only [NT.s]; exact hsz1) (by simp only [NT.p]; exact hsz2) HR3.out.1 HR4.out.1 HR3.out.2 HR4.out.2
set_option maxRecDepth 100000 in
set_option maxHeartbeats 3200000 in
theorem pnode_other (g : Nat) (A : Option Addr) (cA : Nat) (t : Tok) (r : List Tok) (d c : Nat) (w : World) (hP : Pq w g A cA (t :: r) c) (hG : TsOk (t :: r)) (hd : d ≤ 32) (hc : c ≤ 4096) (hnn : ¬ (t.k = 6 ∧ 0 < d ∨ blk t.k = true ∧ 32 ≤ d)) (hb : blk t.k = true) (h6 : t.k ≠ 6) (n : Nat) (IH : ListQ g n) (hn : r.length ≤ n) :
    Calls Tryz.prog 55 #[.pointer (some ⟨g, 0, none⟩), .int .i64 d] w (NodePq g A r w (NX t r d c)) := by
  have htk := hG.2 t (by simp)
  have HG := Lib.hid hG
  have hgl := hP.blk.lt
  have HP := Lib.hid hP
  have hle := hP.row.le
  have hmx := hP.row.max
  unfold maxLen at hmx
  obtain ⟨q0, q1⟩ := hP.cells
  obtain ⟨f0, f1⟩ := hP.frees
  obtain ⟨g1, o1, rfl, hg1, c0, c1, c2, c3, c4⟩ := hP.tok
  simp only [List.length_cons] at q0 hle
  have e1 : ¬ g = w.heap.size := by omega
  have e2 : ¬ g1 = w.heap.size := by omega
  have e3 : ¬ g = w.heap.size + 1 := by omega
  have e4 : ¬ w.heap.size = g := by omega
  have e5 : ¬ w.heap.size + 1 = g := by omega
  have hsz1 : (ofL t.s).size ≤ reachBytes := by have := htk.2.2.1; show t.s.length ≤ reachBytes; unfold reachBytes; omega
  have hsz2 : (ofL t.p).size ≤ reachBytes := by have := htk.2.2.2; show t.p.length ≤ reachBytes; unfold reachBytes; omega
  have HBL := Lib.hid isBlock_c
  have HNN := Lib.hid hnn
  have HKB := Lib.hid hb
  have hd2 : d < 32 := by
    rcases Nat.lt_or_ge d 32 with h | h
    · exact h
    · exact absurd (.inr ⟨hb, h⟩) hnn
  have hd32 : ((d : Int) == 32) = false := by rw [beq_eq_false_iff_ne]; omega
  have HCB : Hid (blkI (t.k : Int) = true) := Lib.hid (by rw [blkI_nat]; exact hb)
  have HIH := Lib.hid IH
  have HN := Lib.hid hn
  have k6 : ((t.k : Int) == 6) = false := by rw [beq_eq_false_iff_ne]; omega
  clear hP hG hb hnn IH hn h6
  by_cases h4 : c = 4096
  · have hcb : ((c : Int) == 4096) = true := by subst h4; rfl
    have HC4 := Lib.hid h4
    clear h4
    go_enter Tryz.func55, Tryz.ntmps55
    go_wp2_with (go_at_call 81; ((with_reducible refine (HBL.out _ _).mono ?_); rintro e w0 ⟨rfl, hw⟩; obtain rfl := hw.symm; rw [HCB.out]))
    refine ⟨rfl, ?_⟩
    unfold NX
    rw [if_neg HNN.out, if_pos (by have := HC4.out; omega)]
    exact ⟨((Only.refl [g] w).alloc _).alloc _, rfl⟩
  · have hcb : ((c : Int) == 4096) = false := by rw [beq_eq_false_iff_ne]; omega
    have hc4 : c < 4096 := by omega
    clear h4
    go_enter Tryz.func55, Tryz.ntmps55
    go_wp2_with (go_at_call 81; ((with_reducible refine (HBL.out _ _).mono ?_); rintro e w0 ⟨rfl, hw⟩; obtain rfl := hw.symm; rw [HCB.out]))
    have hXP : Pq ((w.setCell ⟨g, 0, none⟩ (.slice (cutA cA 1 5 (some ⟨g1, o1, none⟩)) r.length (cA - 1))).setCell ⟨g, 1, none⟩ (.int .i64 ((c : Int) + 1))) g (cutA cA 1 5 (some ⟨g1, o1, none⟩)) (cA - 1) r (c + 1) := HP.out.take.count (c + 1)
    have hXO : Only [g] w ((w.setCell ⟨g, 0, none⟩ (.slice (cutA cA 1 5 (some ⟨g1, o1, none⟩)) r.length (cA - 1))).setCell ⟨g, 1, none⟩ (.int .i64 ((c : Int) + 1))) := ((Only.refl [g] w).setCell (.inl (by simp)) _).setCell (.inl (by simp)) _
    have hXS : ((w.setCell ⟨g, 0, none⟩ (.slice (cutA cA 1 5 (some ⟨g1, o1, none⟩)) r.length (cA - 1))).setCell ⟨g, 1, none⟩ (.int .i64 ((c : Int) + 1))).heap.size = w.heap.size := by simp [World.setCell]
    have hZ : Blk (((((w.setCell ⟨g, 0, none⟩ (.slice (cutA cA 1 5 (some ⟨g1, o1, none⟩)) r.length (cA - 1))).setCell ⟨g, 1, none⟩ (.int .i64 ((c : Int) + 1))).alloc (.cells #[.int .i64 0, .int .i64 0, .string ⟨#[]⟩, .string ⟨#[]⟩, .bool false, .bool false, .slice none 0 0, .slice none 0 0] 69)).alloc (.cells #[.int .i64 t.k, .int .i64 t.a, .string (ofL t.s), .string (ofL t.p), .bool t.h] 64)).alloc (.cells #[.int .i64 t.k, .int .i64 t.a, .string (ofL t.s), .string (ofL t.p), .bool t.h, .bool false, .slice none 0 0, .slice none 0 0] 69)) w.heap.size 69 [.int .i64 0, .int .i64 0, .string ⟨#[]⟩, .string ⟨#[]⟩, .bool false, .bool false, .slice none 0 0, .slice none 0 0] := by
      have h := ((Blk.new ((w.setCell ⟨g, 0, none⟩ (.slice (cutA cA 1 5 (some ⟨g1, o1, none⟩)) r.length (cA - 1))).setCell ⟨g, 1, none⟩ (.int .i64 ((c : Int) + 1))) 69 [.int .i64 0, .int .i64 0, .string ⟨#[]⟩, .string ⟨#[]⟩, .bool false, .bool false, .slice none 0 0, .slice none 0 0]).alloc (.cells #[.int .i64 t.k, .int .i64 t.a, .string (ofL t.s), .string (ofL t.p), .bool t.h] 64)).alloc (.cells #[.int .i64 t.k, .int .i64 t.a, .string (ofL t.s), .string (ofL t.p), .bool t.h, .bool false, .slice none 0 0, .slice none 0 0] 69)
      rw [hXS] at h
      exact h
    have hNB : Blk (((((w.setCell ⟨g, 0, none⟩ (.slice (cutA cA 1 5 (some ⟨g1, o1, none⟩)) r.length (cA - 1))).setCell ⟨g, 1, none⟩ (.int .i64 ((c : Int) + 1))).alloc (.cells #[.int .i64 0, .int .i64 0, .string ⟨#[]⟩, .string ⟨#[]⟩, .bool false, .bool false, .slice none 0 0, .slice none 0 0] 69)).alloc (.cells #[.int .i64 t.k, .int .i64 t.a, .string (ofL t.s), .string (ofL t.p), .bool t.h] 64)).alloc (.cells #[.int .i64 t.k, .int .i64 t.a, .string (ofL t.s), .string (ofL t.p), .bool t.h, .bool false, .slice none 0 0, .slice none 0 0] 69)) (w.heap.size + 1 + 1) 69 [.int .i64 t.k, .int .i64 t.a, .string (ofL t.s), .string (ofL t.p), .bool t.h, .bool false, .slice none 0 0, .slice none 0 0] := by
      have h := Blk.new ((((w.setCell ⟨g, 0, none⟩ (.slice (cutA cA 1 5 (some ⟨g1, o1, none⟩)) r.length (cA - 1))).setCell ⟨g, 1, none⟩ (.int .i64 ((c : Int) + 1))).alloc (.cells #[.int .i64 0, .int .i64 0, .string ⟨#[]⟩, .string ⟨#[]⟩, .bool false, .bool false, .slice none 0 0, .slice none 0 0] 69)).alloc (.cells #[.int .i64 t.k, .int .i64 t.a, .string (ofL t.s), .string (ofL t.p), .bool t.h] 64)) 69 [.int .i64 t.k, .int .i64 t.a, .string (ofL t.s), .string (ofL t.p), .bool t.h, .bool false, .slice none 0 0, .slice none 0 0]
      rw [show ((((w.setCell ⟨g, 0, none⟩ (.slice (cutA cA 1 5 (some ⟨g1, o1, none⟩)) r.length (cA - 1))).setCell ⟨g, 1, none⟩ (.int .i64 ((c : Int) + 1))).alloc (.cells #[.int .i64 0, .int .i64 0, .string ⟨#[]⟩, .string ⟨#[]⟩, .bool false, .bool false, .slice none 0 0, .slice none 0 0] 69)).alloc (.cells #[.int .i64 t.k, .int .i64 t.a, .string (ofL t.s), .string (ofL t.p), .bool t.h] 64)).heap.size = w.heap.size + 1 + 1 by simp [World.setCell]] at h
      exact h
    have hPW := hXP.only (w' := (((((w.setCell ⟨g, 0, none⟩ (.slice (cutA cA 1 5 (some ⟨g1, o1, none⟩)) r.length (cA - 1))).setCell ⟨g, 1, none⟩ (.int .i64 ((c : Int) + 1))).alloc (.cells #[.int .i64 0, .int .i64 0, .string ⟨#[]⟩, .string ⟨#[]⟩, .bool false, .bool false, .slice none 0 0, .slice none 0 0] 69)).alloc (.cells #[.int .i64 t.k, .int .i64 t.a, .string (ofL t.s), .string (ofL t.p), .bool t.h] 64)).alloc (.cells #[.int .i64 t.k, .int .i64 t.a, .string (ofL t.s), .string (ofL t.p), .bool t.h, .bool false, .slice none 0 0, .slice none 0 0] 69))) (S := []) ((((Only.refl [] _).alloc _).alloc _).alloc _) (by simp) (by simp)
    have HOW : Hid (Only [g] w (((((w.setCell ⟨g, 0, none⟩ (.slice (cutA cA 1 5 (some ⟨g1, o1, none⟩)) r.length (cA - 1))).setCell ⟨g, 1, none⟩ (.int .i64 ((c : Int) + 1))).alloc (.cells #[.int .i64 0, .int .i64 0, .string ⟨#[]⟩, .string ⟨#[]⟩, .bool false, .bool false, .slice none 0 0, .slice none 0 0] 69)).alloc (.cells #[.int .i64 t.k, .int .i64 t.a, .string (ofL t.s), .string (ofL t.p), .bool t.h] 64)).alloc (.cells #[.int .i64 t.k, .int .i64 t.a, .string (ofL t.s), .string (ofL t.p), .bool t.h, .bool false, .slice none 0 0, .slice none 0 0] 69))) := Lib.hid (((hXO.alloc _).alloc _).alloc _)
    have hWS : (((((w.setCell ⟨g, 0, none⟩ (.slice (cutA cA 1 5 (some ⟨g1, o1, none⟩)) r.length (cA - 1))).setCell ⟨g, 1, none⟩ (.int .i64 ((c : Int) + 1))).alloc (.cells #[.int .i64 0, .int .i64 0, .string ⟨#[]⟩, .string ⟨#[]⟩, .bool false, .bool false, .slice none 0 0, .slice none 0 0] 69)).alloc (.cells #[.int .i64 t.k, .int .i64 t.a, .string (ofL t.s), .string (ofL t.p), .bool t.h] 64)).alloc (.cells #[.int .i64 t.k, .int .i64 t.a, .string (ofL t.s), .string (ofL t.p), .bool t.h, .bool false, .slice none 0 0, .slice none 0 0] 69)).heap.size = w.heap.size + 3 := by simp [World.setCell]
    have HRA : Hid (∀ k, k ∈ rowT (cutA cA 1 5 (some (⟨g1, o1, none⟩ : Addr))) → k < w.heap.size) := Lib.hid (fun k hk => by rw [rowT_cut, rowT_some] at hk; simp at hk; omega)
    have hfl := fill_c HIH.out (w.heap.size + 1 + 1) (cutA cA 1 5 (some ⟨g1, o1, none⟩)) (cA - 1) t r (d + 1) (c + 1) _ hPW HG.out.tail HN.out (by omega) (by omega) hNB (by omega) (fun hk => by have := HRA.out _ hk; omega)
    have HZ := Lib.hid hZ
    clear hXP hXO hXS hNB hPW hZ
    generalize (((((w.setCell ⟨g, 0, none⟩ (.slice (cutA cA 1 5 (some ⟨g1, o1, none⟩)) r.length (cA - 1))).setCell ⟨g, 1, none⟩ (.int .i64 ((c : Int) + 1))).alloc (.cells #[.int .i64 0, .int .i64 0, .string ⟨#[]⟩, .string ⟨#[]⟩, .bool false, .bool false, .slice none 0 0, .slice none 0 0] 69)).alloc (.cells #[.int .i64 t.k, .int .i64 t.a, .string (ofL t.s), .string (ofL t.p), .bool t.h] 64)).alloc (.cells #[.int .i64 t.k, .int .i64 t.a, .string (ofL t.s), .string (ofL t.p), .bool t.h, .bool false, .slice none 0 0, .slice none 0 0] 69)) = X at hfl HZ HOW hWS ⊢
    refine hfl.mono ?_
    rintro e w1 ⟨hO, hp⟩
    have hs1 : X.heap.size ≤ w1.heap.size := hO.size
    have HO1 : Hid (Only [g] w w1) := Lib.hid (HOW.out.join hO (fun k hk => by simp at hk; rcases hk with rfl | rfl; exact .inl (by simp); exact .inr (by omega)))
    have HZ1 := Lib.hid (HZ.out.only hO (by simp only [List.mem_cons, List.not_mem_nil, or_false, not_or]; exact ⟨e4, by omega⟩))
    clear hO hfl HOW HZ
    cases hres : FX t r (d + 1) (c + 1) with
    | error ak =>
      obtain ⟨a, k⟩ := ak
      rw [hres] at hp
      dsimp only at hp
      subst hp
      have HRES := Lib.hid hres
      clear hres
      go_wp2_with fail
      refine ⟨rfl, ?_⟩
      rw [NX_fx HNN.out hc4 HKB.out, HRES.out]
      exact ⟨HO1.out, rfl⟩
    | ok y =>
      obtain ⟨eh, x, l, r', c'⟩ := y
      rw [hres] at hp
      obtain ⟨rfl, B, cB, m, D, cD, q, hers, hers2, hrow, hrow2, hblk, ⟨A', cA', hP', hA'⟩, k, hk⟩ := hp
      have HRES := Lib.hid hres
      have HE := Lib.hid hers
      have HE2 := Lib.hid hers2
      have HR := Lib.hid hrow
      have HR2 := Lib.hid hrow2
      have HB := Lib.hid hblk
      have HP1 := Lib.hid hP'
      have HA' := Lib.hid hA'
      have HK := Lib.hid hk
      obtain ⟨x0, x1, x2, x3, x4, x5, x6, x7⟩ := cells8 HB.out
      obtain ⟨z0, z1, z2, z3, z4, z5, z6, z7⟩ := cells8 HZ1.out
      have u0 := HZ1.out.free 0
      have u1 := HZ1.out.free 1
      have u2 := HZ1.out.free 2
      have u3 := HZ1.out.free 3
      have u4 := HZ1.out.free 4
      have u5 := HZ1.out.free 5
      have u6 := HZ1.out.free 6
      have u7 := HZ1.out.free 7
      clear hres hers hers2 hrow hrow2 hblk hP' hA' hk q0 q1 f0 f1 c0 c1 c2 c3 c4
      go_wp2_with fail
      have ho : Only [w.heap.size] w1 ((((((((w1.setCell ⟨w.heap.size, 0, none⟩ (.int .i64 t.k)).setCell ⟨w.heap.size, 1, none⟩ (.int .i64 t.a)).setCell ⟨w.heap.size, 2, none⟩ (.string (ofL t.s))).setCell ⟨w.heap.size, 3, none⟩ (.string (ofL t.p))).setCell ⟨w.heap.size, 4, none⟩ (.bool t.h)).setCell ⟨w.heap.size, 5, none⟩ (.bool eh)).setCell ⟨w.heap.size, 6, none⟩ (.slice B m.length cB)).setCell ⟨w.heap.size, 7, none⟩ (.slice D q.length cD)) := only8 w1 w.heap.size _ _ _ _ _ _ _ _
      have hb8 : Blk ((((((((w1.setCell ⟨w.heap.size, 0, none⟩ (.int .i64 t.k)).setCell ⟨w.heap.size, 1, none⟩ (.int .i64 t.a)).setCell ⟨w.heap.size, 2, none⟩ (.string (ofL t.s))).setCell ⟨w.heap.size, 3, none⟩ (.string (ofL t.p))).setCell ⟨w.heap.size, 4, none⟩ (.bool t.h)).setCell ⟨w.heap.size, 5, none⟩ (.bool eh)).setCell ⟨w.heap.size, 6, none⟩ (.slice B m.length cB)).setCell ⟨w.heap.size, 7, none⟩ (.slice D q.length cD)) w.heap.size 69 [.int .i64 t.k, .int .i64 t.a, .string (ofL t.s), .string (ofL t.p), .bool t.h, .bool eh, .slice B m.length cB, .slice D q.length cD] := set8 HZ1.out _ _ _ _ _ _ _ _
      clear x0 x1 x2 x3 x4 x5 x6 x7 z0 z1 z2 z3 z4 z5 z6 z7 u0 u1 u2 u3 u4 u5 u6 u7
      generalize ((((((((w1.setCell ⟨w.heap.size, 0, none⟩ (.int .i64 t.k)).setCell ⟨w.heap.size, 1, none⟩ (.int .i64 t.a)).setCell ⟨w.heap.size, 2, none⟩ (.string (ofL t.s))).setCell ⟨w.heap.size, 3, none⟩ (.string (ofL t.p))).setCell ⟨w.heap.size, 4, none⟩ (.bool t.h)).setCell ⟨w.heap.size, 5, none⟩ (.bool eh)).setCell ⟨w.heap.size, 6, none⟩ (.slice B m.length cB)).setCell ⟨w.heap.size, 7, none⟩ (.slice D q.length cD)) = w2 at ho hb8 ⊢
      have hs8 : w1.heap.size ≤ w2.heap.size := ho.size
      have hR : Row w2 (Fr w w2) B cB m := HR.out.onlyS ho (fun z hz => ⟨by have := hz.1; simp; omega, hz.2⟩) (fun z hz => ⟨by have := hz.1; omega, by have := hz.2; omega⟩)
      have hR2 : Row w2 (Fr w w2) D cD q := HR2.out.onlyS ho (fun z hz => ⟨by have := hz.1; simp; omega, hz.2⟩) (fun z hz => ⟨by have := hz.1; omega, by have := hz.2; omega⟩)
      have hO2 : Only [g] w w2 := HO1.out.join ho (fun k hk => .inr (by simp at hk; omega))
      have hP2 : Pq w2 g A' cA' r' c' := HP1.out.only ho (by simp; exact e1) (fun k hk => by rw [HA'.out] at hk; have := HRA.out k hk; simp; omega)
      have HR3 := Lib.hid hR
      have HR4 := Lib.hid hR2
      have HO2 := Lib.hid hO2
      have HP2 := Lib.hid hP2
      clear hR hR2 hO2 hP2 ho
      refine bodyPost_ret (doneN rfl rfl hb8) rfl ?_
      rw [NX_fx HNN.out hc4 HKB.out, HRES.out]
      dsimp only
      refine ⟨HO2.out, .mk t.k t.a (ofL t.s) (ofL t.p) t.h eh B cB m D cD q, by simp only [NT.er, nd]; rw [HE.out, HE2.out], ?_, rfl, ⟨A', cA', HP2.out, by rw [HA'.out, rowT_cut]⟩, k, HK.out⟩
      exact .mk _ (by constructor <;> (simp only [NT.k]; omega)) (by constructor <;> (simp only [NT.a]; omega)) (by simp only [NT.s]; exact hsz1) (by simp only [NT.p]; exact hsz2) HR3.out.1 HR4.out.1 HR3.out.2 HR4.out.2
theorem pnode_of {g n : Nat} (IH : ListQ g n) : NodeQ g n := by
  intro A cA t r d c w hP hG hn hd hc
  by_cases hnest : t.k = 6 ∧ 0 < d ∨ blk t.k = true ∧ 32 ≤ d
  · by_cases h6 : t.k = 6
    · exact pnode_define g A cA t r d c w hP hG hd hc h6 (by rcases hnest with h | h; exact h.2; omega)
    · have h0 : blk t.k = true ∧ 32 ≤ d := by rcases hnest with h | h; exact absurd h.1 h6; exact h
      exact pnode_deep g A cA t r d c w hP hG hd hc h6 h0.1 h0.2
  cases hb : blk t.k with
  | false => exact pnode_leaf g A cA t r d c w hP hG hd hc hb
  | true =>
    by_cases h6 : t.k = 6
    · exact pnode_six g A cA t r d c w hP hG hd hc hnest hb h6 n IH hn
    · exact pnode_other g A cA t r d c w hP hG hd hc hnest hb h6 n IH hn
end Go.Proofs.YtpcapmdfjmpdiaaGreatDoor
