/-
  Contract: From.
-/
import Derived.Test.YtmgnomahnndeaaaDoorConv9C
namespace Go.Proofs.YtmgnomahnndeaaaDoor
open Go.RowKit Go.BigFrame
set_option linter.unusedVariables false
set_option linter.unusedSimpArgs false
theorem done23 {f : Func} (hf : f.results = #[.cell 2 34, .tmp 3]) {tmps : Array Value} {g : Nat} {c : Int} {u : VT} {W : World} (hp : tmps.getD 2 undef = .pointer (some ⟨g, 0, none⟩)) (h5 : tmps.getD 3 undef = .int .i64 c)
    (hB : Blk W g 34 u.cs) : (results f tmps).run Tryd.prog W = .ok (.tuple #[u.val, .int .i64 c]) W := by
  have hp' : tmps[2]?.getD undef = .pointer (some ⟨g, 0, none⟩) := by simpa using hp
  have h5' : tmps[3]?.getD undef = .int .i64 c := by simpa using h5
  have hl := run_loadVar_row W g 34 u.cs.toArray (0, 0) _ (P := Tryd.prog) (ty := 34) hB Tryd.underlying34 rfl (by kernel_rfl)
  simp [results, hf, hp', h5', asAddr, hl]
  rfl
/-- What From gives: a value with blocks of its own, and an error. -/
def FrR (a : AT) (w : World) (e : Ending) (w' : World) : Prop :=
  ∃ (t : VT) (E : Int), e = .returned (.tuple #[.agg #[.int .i64 t.k, .string t.s, .int .i64 t.n, .bool t.b, .slice t.A t.xs.length t.c, .slice t.F t.vs.length t.d], .int .i64 E]) ∧ Bel w w' ∧
    t.In w' (fun g => w.heap.size ≤ g ∧ g < w'.heap.size) ∧ ((a.conv = none ∧ E = 18 ∧ t = VT.zero) ∨ ∃ u : VT, (∃ (W : World) (Q : Nat → Prop), u.In W Q) ∧ a.conv = some u.plain ∧ E = VT.chk (SizeOf.sizeOf u + 1) u 1 ∧ (E ≠ 0 → t = VT.zero) ∧ (E = 0 → t = u))
set_option maxRecDepth 100000 in
set_option maxHeartbeats 200000 in
theorem From_c (a : AT) (n : Nat) (hn : n ≤ 50000) (hh : a.hle n) (w : World) (hI : a.In w (· < w.heap.size)) :
    Calls Tryd.prog 24 #[a.val] w (FrR a w) := by
  have HW0 : Hid (Bel w (w.alloc (.cells #[.int .i64 0, .string ByteArray.empty, .int .i64 0, .bool false, .slice none 0 0, .slice none 0 0] 34))) := Lib.hid (Bel.alloc _ _)
  have HZ : Hid (Blk (w.alloc (.cells #[.int .i64 0, .string ByteArray.empty, .int .i64 0, .bool false, .slice none 0 0, .slice none 0 0] 34)) w.heap.size 34 VT.zero.cs) := Lib.hid (Blk.new w 34 VT.zero.cs)
  have hC := convert_c n a hh 1 (by omega) _ (hI.bel HW0.out)
  rw [show ((1 : Nat) : Int) = 1 from rfl] at hC
  have HC := Lib.hid hC
  clear hh hI hC
  generalize a.val = v at HC ⊢
  go_enter Tryd.func24, Tryd.ntmps24
  go_wp2_with (first
    | (go_at_call 43; refine HC.out.mono ?_; rintro e w1 ⟨t, b, rfl, hb, ht, hcase⟩; have HB1 := Lib.hid (HW0.out.trans hb); have HCASE := Lib.hid hcase; have HZ1 := Lib.hid ((HZ.out.below hb (by simp)).alloc (.cells #[.int .i64 t.k, .string t.s, .int .i64 t.n, .bool t.b, .slice t.A t.xs.length t.c, .slice t.F t.vs.length t.d] 34)); have HT := Lib.hid (ht.only ((Only.refl [] w1).alloc (.cells #[.int .i64 t.k, .string t.s, .int .i64 t.n, .bool t.b, .slice t.A t.xs.length t.c, .slice t.F t.vs.length t.d] 34)) (fun g hg => ⟨by simp, hg.2⟩) (Q' := fun g => w.heap.size + 1 ≤ g ∧ g < w1.heap.size + 1) (fun g hg => by simp at hg ⊢; omega)); have HS1 := Lib.hid (show w.heap.size < w1.heap.size from by have := hb.size; simp at this; omega); obtain ⟨z0, z1, z2, z3, z4, z5⟩ := cs_cells HZ1.out; have f0 := HZ1.out.free 0; have f1 := HZ1.out.free 1; have f2 := HZ1.out.free 2; have f3 := HZ1.out.free 3; have f4 := HZ1.out.free 4; have f5 := HZ1.out.free 5; clear hb ht hcase)
    | fail)
  · have h9 : (!b) = true := by assumption
    have h8 : b = false := by simpa using h9
    subst h8
    have hno : a.conv = none := by
      rcases HCASE.out with ⟨h, _⟩ | ⟨_, h, _⟩
      · cases h
      · exact h
    refine bodyPost_ret (done23 (u := VT.zero) rfl rfl rfl (set6 HZ1.out _ _ _ _ _ _)) rfl ?_
    exact ⟨VT.zero, 18, rfl, bel_on1 (HB1.out.trans (Bel.alloc _ _)) (only6 _ _ _ _ _ _ _ _) (Nat.le_refl _), zeroIn _ _, .inl ⟨hno, rfl, rfl⟩⟩
  · have h9 : (!b) = false := by assumption
    have h8 : b = true := by simpa using h9
    subst h8
    have hco : a.conv = some t.plain := by
      rcases HCASE.out with ⟨_, h⟩ | ⟨h, _⟩
      · exact h
      · cases h
    have HCK0 := Check_c t (w1.alloc (.cells #[.int .i64 t.k, .string t.s, .int .i64 t.n, .bool t.b, .slice t.A t.xs.length t.c, .slice t.F t.vs.length t.d] 34)) (HT.out.same (fun g hg => by simp; omega) fun _ _ _ => rfl)
    rw [VT.val_eq] at HCK0
    obtain ⟨E, hE⟩ : ∃ E, E = VT.chk (SizeOf.sizeOf t + 1) t 1 := ⟨_, rfl⟩
    rw [← hE] at HCK0
    have HCK := Lib.hid HCK0
    have HBT := Lib.hid (show Blk (w1.alloc (.cells #[.int .i64 t.k, .string t.s, .int .i64 t.n, .bool t.b, .slice t.A t.xs.length t.c, .slice t.F t.vs.length t.d] 34)) w1.heap.size 34 t.cs from Blk.new w1 34 t.cs)
    have HE := Lib.hid hE
    have HCO := Lib.hid hco
    clear HCK0 hE hco z0 z1 z2 z3 z4 z5 f0 f1 f2 f3 f4 f5
    go_wp2_with (go_at_call 18; refine HCK.out.mono ?_; rintro e w2 ⟨rfl, hb⟩; have HB2 := Lib.hid ((HB1.out.trans (Bel.alloc _ _)).trans hb); have HT2 := Lib.hid (HT.out.same (Q' := fun g => w.heap.size + 1 ≤ g ∧ g < w2.heap.size) (fun g hg => ⟨hg.1, by have := hb.size; simp at this; omega⟩) (fun g p hg => (hb.cell (by simp; omega)))); have HZ2 := Lib.hid (HZ1.out.below hb HZ1.out.lt); have HBT2 := Lib.hid (HBT.out.below hb HBT.out.lt); obtain ⟨z0, z1, z2, z3, z4, z5⟩ := cs_cells HZ2.out; have f0 := HZ2.out.free 0; have f1 := HZ2.out.free 1; have f2 := HZ2.out.free 2; have f3 := HZ2.out.free 3; have f4 := HZ2.out.free 4; have f5 := HZ2.out.free 5; obtain ⟨y0, y1, y2, y3, y4, y5⟩ := cs_cells HBT2.out; have g0 := HBT2.out.free 0; have g1 := HBT2.out.free 1; have g2 := HBT2.out.free 2; have g3 := HBT2.out.free 3; have g4 := HBT2.out.free 4; have g5 := HBT2.out.free 5; clear hb)
    · have h7 : (E != 0) = true := by assumption
      have h6 : E ≠ 0 := by simpa using h7
      refine bodyPost_ret (done23 (u := VT.zero) rfl rfl rfl (set6 HZ2.out _ _ _ _ _ _)) rfl ?_
      exact ⟨VT.zero, E, rfl, bel_on1 HB2.out (only6 _ _ _ _ _ _ _ _) (Nat.le_refl _), zeroIn _ _, .inr ⟨t, ⟨_, _, HT2.out⟩, HCO.out, HE.out, fun _ => rfl, fun h => absurd h h6⟩⟩
    · have h7 : (E != 0) = false := by assumption
      have h6 : E = 0 := by simpa using h7
      subst h6
      refine bodyPost_ret (done23 (u := t) rfl rfl rfl (set6 HZ2.out _ _ _ _ _ _)) rfl ?_
      exact ⟨t, 0, rfl, bel_on1 HB2.out (only6 _ _ _ _ _ _ _ _) (Nat.le_refl _), HT2.out.only (only6 _ _ _ _ _ _ _ _) (fun g hg => ⟨by simp; omega, hg.2⟩) (fun g hg => ⟨by omega, Nat.lt_of_lt_of_le hg.2 (only6 _ _ _ _ _ _ _ _).size⟩), .inr ⟨t, ⟨_, _, HT2.out⟩, HCO.out, HE.out, fun h => absurd rfl h, fun _ => rfl⟩⟩
end Go.Proofs.YtmgnomahnndeaaaDoor
