/-
  Contracts: convertElement, convertList.
-/
import Derived.Test.YtmgnomahnndeaaaDoorSorted9
import Derived.Test.YtmgnomahnndeaaaDoorRowK
import Derived.Laws.MakeOwn
namespace Go.Proofs.YtmgnomahnndeaaaDoor
open Go.RowKit Go.BigFrame
set_option linter.unusedVariables false
set_option linter.unusedSimpArgs false

theorem info_value : (Tryd.prog.info? 34).map (fun i => (i.zero, i.size, i.bytes)) = some (some (.agg #[.int .i64 0, .string ByteArray.empty, .int .i64 0, .bool false, .slice none 0 0, .slice none 0 0]), 6, 88) := by kernel_rfl
theorem info_field : (Tryd.prog.info? 57).map (fun i => (i.zero, i.size, i.bytes)) = some (some (.agg #[.string ByteArray.empty, .int .i64 0, .string ByteArray.empty, .int .i64 0, .bool false, .slice none 0 0, .slice none 0 0]), 7, 104) := by kernel_rfl
theorem info_any : (Tryd.prog.info? 20).map (fun i => (i.zero, i.size, i.bytes)) = some (some .nilIface, 1, 16) := by kernel_rfl
/-- 'make' lays a block of so many cells. -/
theorem make_cells {t e : TypeId} {z : Value} {size bytes : Nat} (ht : Tryd.prog.underlying t = some (.slice e)) (hinfo : (Tryd.prog.info? e).map (fun i => (i.zero, i.size, i.bytes)) = some (some z, size, bytes)) (m n : Nat) (hm : m ≤ n) (hb : bytes * n ≤ 281474976710656) (hn : n ≤ 9223372036854775807) :
    ∃ L : List Value, L.length = n * size ∧ ∀ W, (Instr.makeSlice t (.int .i64 (m : Int)) (.int .i64 (n : Int))).run Tryd.prog W = .ok (.slice (some ⟨W.heap.size, 0, none⟩) m n) (W.alloc (.cells L.toArray e)) := by
  obtain ⟨i0, hi, hz0, hz1, hz2⟩ := info_parts hinfo
  refine ⟨(madeCells z.cells (n * size)).toList, by rw [Array.length_toList, size_madeCells], fun W => ?_⟩
  have hr := run_make (P := Tryd.prog) W t e i0 _ ht hi hz0 .i64 .i64 m n (by omega) (by omega) (by rw [hz2, ← Int.natCast_mul]; omega) (by omega)
  rw [hr, hz1, Int.toNat_natCast, Int.toNat_natCast, Array.toArray_toList]

/-- What is converted: a value with blocks of its own, or nothing. -/
def CvR (a : AT) (w : World) (e : Ending) (w' : World) : Prop :=
  ∃ (t : VT) (b : Bool), e = .returned (.tuple #[.agg #[.int .i64 t.k, .string t.s, .int .i64 t.n, .bool t.b, .slice t.A t.xs.length t.c, .slice t.F t.vs.length t.d], .bool b]) ∧ Bel w w' ∧
    t.In w' (fun g => w.heap.size ≤ g ∧ g < w'.heap.size) ∧ ((b = true ∧ a.conv = some t.plain) ∨ (b = false ∧ a.conv = none ∧ t = VT.zero))
theorem VT.In.only {w w' : World} {Q Q' : Nat → Prop} {S : List Nat} {t : VT} (h : t.In w Q) (ho : Only S w w') (hS : ∀ g, Q g → g ∉ S ∧ g < w.heap.size) (hq : ∀ g, Q g → Q' g) : t.In w' Q' :=
  h.same hq fun g p hg => only_cell ho (hS g hg).2 (hS g hg).1
theorem done2b {f : Func} (hf : f.results = #[.cell 4 34, .tmp 5]) {tmps : Array Value} {g : Nat} {c : Bool} {u : VT} {W : World} (hp : tmps.getD 4 undef = .pointer (some ⟨g, 0, none⟩)) (h5 : tmps.getD 5 undef = .bool c)
    (hB : Blk W g 34 u.cs) : (results f tmps).run Tryd.prog W = .ok (.tuple #[u.val, .bool c]) W := by
  have hp' : tmps[4]?.getD undef = .pointer (some ⟨g, 0, none⟩) := by simpa using hp
  have h5' : tmps[5]?.getD undef = .bool c := by simpa using h5
  have hl := run_loadVar_row W g 34 u.cs.toArray (0, 0) _ (P := Tryd.prog) (ty := 34) hB Tryd.underlying34 rfl (by kernel_rfl)
  simp [results, hf, hp', h5', asAddr, hl]
  rfl

theorem ta_list (a : AT) {w : World} {Q : Nat → Prop} (h : a.In w Q) : ∃ (y : Value) (b : Bool), ∀ W, (Instr.typeAssert a.val 20 53 true).run Tryd.prog W = .ok (.tuple #[y, .bool b]) W := by
  cases h with
  | bad v h => exact ⟨_, _, h.2.2.2.2.1⟩
  | str s _ => exact ⟨.slice none 0 0, false, fun W => by unfold AT.val; kernel_rfl⟩
  | int n _ => exact ⟨.slice none 0 0, false, fun W => by unfold AT.val; kernel_rfl⟩
  | i64 n _ => exact ⟨.slice none 0 0, false, fun W => by unfold AT.val; kernel_rfl⟩
  | bool b => exact ⟨.slice none 0 0, false, fun W => by unfold AT.val; kernel_rfl⟩
  | list A c xs _ _ _ => exact ⟨.slice A xs.length c, true, fun W => by unfold AT.val; kernel_rfl⟩
  | map B ks vs _ _ _ _ _ _ _ => exact ⟨.slice none 0 0, false, fun W => by unfold AT.val; kernel_rfl⟩
theorem ta_map (a : AT) {w : World} {Q : Nat → Prop} (h : a.In w Q) : ∃ (y : Value) (b : Bool), ∀ W, (Instr.typeAssert a.val 20 54 true).run Tryd.prog W = .ok (.tuple #[y, .bool b]) W := by
  cases h with
  | bad v h => exact ⟨_, _, h.2.2.2.2.2⟩
  | str s _ => exact ⟨.map none, false, fun W => by unfold AT.val; kernel_rfl⟩
  | int n _ => exact ⟨.map none, false, fun W => by unfold AT.val; kernel_rfl⟩
  | i64 n _ => exact ⟨.map none, false, fun W => by unfold AT.val; kernel_rfl⟩
  | bool b => exact ⟨.map none, false, fun W => by unfold AT.val; kernel_rfl⟩
  | list A c xs _ _ _ => exact ⟨.map none, false, fun W => by unfold AT.val; kernel_rfl⟩
  | map B ks vs _ _ _ _ _ _ _ => exact ⟨.map (some B), true, fun W => by unfold AT.val; kernel_rfl⟩

set_option maxRecDepth 100000 in
set_option maxHeartbeats 1600000 in
theorem element_c (a : AT) (d : Nat) (hd : d ≤ 65536) (w : World) (hI : a.In w (· < w.heap.size)) (hC : ∀ W, Bel w W → Calls Tryd.prog 43 #[a.val, .int .i64 d] W (CvR a W)) :
    Calls Tryd.prog 60 #[a.val, .int .i64 d] w (CvR a w) := by
  obtain ⟨y1, b1, h1⟩ := ta_list a hI
  obtain ⟨y2, b2, h2⟩ := ta_map a hI
  have HC := Lib.hid hC
  clear hC hI
  have HB := Lib.hid (Blk.new w 34 VT.zero.cs)
  have HW0 : Hid (Bel w (w.alloc (.cells #[.int .i64 0, .string ByteArray.empty, .int .i64 0, .bool false, .slice none 0 0, .slice none 0 0] 34))) := Lib.hid (Bel.alloc _ _)
  generalize a.val = v at *
  go_enter Tryd.func60, Tryd.ntmps60
  go_wp2_with (go_at_call 43; refine (HC.out _ HW0.out).mono ?_; rintro e w1 ⟨t, b, rfl, hb, ht, hcase⟩; have HB1 := Lib.hid hb; have HT := Lib.hid ht; have HCASE := Lib.hid hcase; have hB1 := HB.out.below hb (by simp); obtain ⟨c0, c1, c2, c3, c4, c5⟩ := cs_cells hB1; have f0 := hB1.free 0; have f1 := hB1.free 1; have f2 := hB1.free 2; have f3 := hB1.free 3; have f4 := hB1.free 4; have f5 := hB1.free 5; have HBB := Lib.hid hB1; clear hb ht hcase hB1)
  refine bodyPost_ret (done2b (u := t) rfl rfl rfl (set6 HBB.out _ _ _ _ _ _)) rfl ?_
  exact ⟨t, b, rfl, bel_on1 (HW0.out.trans HB1.out) (only6 _ _ _ _ _ _ _ _) (by omega), HT.out.only (only6 _ _ _ _ _ _ _ _) (fun g hg => ⟨by simp at hg ⊢; omega, by omega⟩) (fun g hg => by simp at hg ⊢; omega), HCASE.out⟩
end Go.Proofs.YtmgnomahnndeaaaDoor
