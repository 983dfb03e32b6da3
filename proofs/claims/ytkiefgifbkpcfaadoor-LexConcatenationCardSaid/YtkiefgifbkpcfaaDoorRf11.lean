/-
  Contract: the reference's form.
-/
import Derived.Test.YtkiefgifbkpcfaaDoorLe11
namespace Go.Proofs.YtkiefgifbkpcfaaDoor
open Go.RowKit Go.BigFrame
set_option linter.unusedVariables false
set_option linter.unusedSimpArgs false
attribute [local go_sem ↓] sliced_cut run_min2 run_max2
attribute [local go_sem] cutA_zero

/-- What the reference's form gives. -/
def FormPost (ws : List (List UInt8)) (w : World) (e : Ending) (w' : World) : Prop :=
  Bel w w' ∧ match formW ws with
    | none => ∃ (k : Int) (s p : ByteArray) (h b : Bool), e = .returned (.tuple #[.agg #[.int .i64 k, .int .i64 0, .string s, .string p, .bool h], .bool false, .bool b])
    | some (k, n, p) => e = .returned (.tuple #[.agg #[.int .i64 k, .int .i64 0, .string (ofL n), .string (ofL (p.getD [])), .bool p.isSome], .bool true, .bool (okF k n p)])
theorem done3 {f : Func} (hf : f.results = #[.cell 2 35, .tmp 3, .tmp 4]) {tmps : Array Value} {g : Nat} {x y : Value} {v0 v1 v2 v3 v4 : Value} {W : World} (hp : tmps.getD 2 undef = .pointer (some ⟨g, 0, none⟩)) (h3 : tmps.getD 3 undef = x) (h4 : tmps.getD 4 undef = y)
    (h1 : v0.oneCell' = true ∧ v1.oneCell' = true ∧ v2.oneCell' = true ∧ v3.oneCell' = true ∧ v4.oneCell' = true)
    (hB : Blk W g 35 [v0, v1, v2, v3, v4]) : (results f tmps).run Tryd.prog W = .ok (.tuple #[.agg #[v0, v1, v2, v3, v4], x, y]) W := by
  have hp' : tmps[2]?.getD undef = .pointer (some ⟨g, 0, none⟩) := by simpa using hp
  have h3' : tmps[3]?.getD undef = x := by simpa using h3
  have h4' : tmps[4]?.getD undef = y := by simpa using h4
  have hl := run_loadVar_row W g 35 #[v0, v1, v2, v3, v4] (0, 0) _ (P := Tryd.prog) (ty := 35) hB Tryd.underlying35 rfl (by kernel_rfl)
  simp [results, hf, hp', h3', h4', asAddr, hl]
/-- Two blocks that were laid, later. -/
theorem two_blks {w w4 : World} {T : TypeId} {L0 L1 : List Value} (hb : Bel ((w.alloc (.cells L0.toArray T)).alloc (.cells L1.toArray T)) w4) : Blk w4 w.heap.size T L0 ∧ Blk w4 (w.heap.size + 1) T L1 ∧ Bel w w4 := by
  have h0 := (Blk.new w T L0).alloc (.cells L1.toArray T)
  have h1 := Blk.new (w.alloc (.cells L0.toArray T)) T L1
  have e : (w.alloc (.cells L0.toArray T)).heap.size = w.heap.size + 1 := by simp
  rw [e] at h1
  exact ⟨h0.below hb h0.lt, h1.below hb h1.lt, ((Bel.alloc w _).trans (Bel.alloc _ _)).trans hb⟩
theorem cell_two {w : World} {g p : Nat} {v : Value} (hg : g < w.heap.size) (h : w.cell? ⟨g, p, none⟩ = some v) : ∀ o1 o2, ((w.alloc o1).alloc o2).cell? ⟨g, p, none⟩ = some v :=
  fun o1 o2 => (Bel.cell ((Bel.alloc w o1).trans (Bel.alloc _ o2)) hg).trans h
theorem ok_both (n q : List UInt8) : okF 4 n (some q) = (nameL n && pathL q) := by unfold okF; rfl
theorem ok_path (k : Nat) (hk : (k == 4 || k == 6) = false) (q : List UInt8) : okF k [] (some q) = pathL q := by unfold okF; rw [hk]; rfl
theorem lit_words {x : ByteArray} {l : List UInt8} (h : toL x = l) : x = ofL l := by rw [← h, ofL_toL]
theorem toList_beq (a b : ByteArray) : (a.toList == b.toList) = decide (a = b) := by
  rw [ByteArray.toList_eq, ByteArray.toList_eq, Bool.eq_iff_iff, beq_iff_eq, decide_eq_true_iff]
  exact ⟨fun h => toL_inj h, fun h => by rw [h]⟩
/-- Another string than a written one. -/
theorem lit_ne {x : ByteArray} {l : List UInt8} (h : x ≠ ⟨l.toArray⟩) : (x.toList == l) = false := by
  rw [ByteArray.toList_eq, beq_eq_false_iff_ne]
  intro h2
  apply h
  rw [← h2]
end Go.Proofs.YtkiefgifbkpcfaaDoor
