/-
  The program of layer 17: the table of the operands; has an instruction an operand that its opcode does not have?
-/
import Derived.Test.YtpcapmdfjmpdiaaGreatDoorZPure12
namespace Go.Proofs.YtpcapmdfjmpdiaaGreatDoor
open Go.RowKit Go.BigFrame NT
set_option linter.unusedVariables false
set_option linter.unusedSimpArgs false
set_option maxRecDepth 100000

def tS (k : Nat) : Bool := k == 0
def tP (k : Nat) : Bool := k == 1 || k == 2 || k == 4 || k == 6
def tH (k : Nat) : Bool := k == 6
def tE (k : Nat) : Bool := k == 1
def tT (k : Nat) : Nat := if k = 2 ∨ k = 3 ∨ k = 4 then 2 else if k = 5 then 3 else if k = 6 then 1 else 0
/-- The table lies where it was laid. -/
def TabO (w : World) : Prop := ∀ k, k < 10 → w.cell? ⟨0, k * 5, none⟩ = some (.bool (tS k)) ∧ w.cell? ⟨0, k * 5 + 1, none⟩ = some (.bool (tP k)) ∧ w.cell? ⟨0, k * 5 + 2, none⟩ = some (.bool (tH k)) ∧ w.cell? ⟨0, k * 5 + 3, none⟩ = some (.bool (tE k)) ∧ w.cell? ⟨0, k * 5 + 4, none⟩ = some (.int .i64 (tT k : Nat))
theorem cell_lt {w : World} {g o : Nat} {v : Value} (h : w.cell? ⟨g, o, none⟩ = some v) : g < w.heap.size := by
  simp only [World.cell?] at h
  split at h
  · rename_i hh; exact (Array.getElem?_eq_some_iff.1 hh).1
  · cases h
theorem TabO.bel {w w' : World} (h : TabO w) (hb : Bel w w') : TabO w' := fun k hk => by
  obtain ⟨h0, h1, h2, h3, h4⟩ := h k hk
  have hg := cell_lt h0
  exact ⟨(hb.cell hg).trans h0, (hb.cell hg).trans h1, (hb.cell hg).trans h2, (hb.cell hg).trans h3, (hb.cell hg).trans h4⟩
/-- Has it an operand that the opcode does not have? -/
def foB (k : Nat) (x : XI) : Bool := (!tS k && decide (x.s.size ≠ 0)) || (!tP k && decide (x.p.size ≠ 0)) || (!tH k && x.h) || (tH k && (!x.h && decide (x.p.size ≠ 0))) || (!tE k && decide (x.e ≠ 0)) || (decide (tT k = 0) && decide (x.t ≠ 0))
theorem tP_iff (k : Nat) : tP k = true ↔ k = 1 ∨ k = 2 ∨ k = 4 ∨ k = 6 := by unfold tP; simp [Bool.or_eq_true]; omega
theorem tT_iff (k : Nat) : tT k = 0 ↔ ¬ (2 ≤ k ∧ k ≤ 6) := by unfold tT; split <;> (try split) <;> (try split) <;> omega
theorem foB_shape {k : Nat} {x : XI} (hk : x.o = (k : Nat)) : (foB k x = false) ↔ shapeX x := by
  have hP : hasP x.o ↔ tP k = true := by rw [tP_iff]; unfold hasP; omega
  have hT : hasT x.o ↔ tT k ≠ 0 := by rw [ne_eq, tT_iff]; unfold hasT; omega
  have hS : x.o = 0 ↔ tS k = true := by unfold tS; simp; omega
  have hH : x.o = 6 ↔ tH k = true := by unfold tH; simp; omega
  have hE : x.o = 1 ↔ tE k = true := by unfold tE; simp; omega
  unfold foB shapeX
  rw [hP, hT, hS, hH, hE]
  have c1 : ∀ (a : Bool) (P : Prop) [Decidable P], (!a && decide P) = false ↔ (P → a = true) := fun a P _ => by cases a <;> by_cases hp : P <;> simp [hp]
  have c3 : ∀ a h : Bool, (!a && h) = false ↔ (h = true → a = true) := fun a h => by cases a <;> cases h <;> simp
  have c4 : ∀ (a h : Bool) (n : Nat), (a && (!h && decide (n ≠ 0))) = false ↔ (a = true → h = false → n = 0) := fun a h n => by cases a <;> cases h <;> by_cases hp : n = 0 <;> simp [hp]
  have c6 : ∀ (n : Nat) (t : Int), (decide (n = 0) && decide (t ≠ 0)) = false ↔ (t ≠ 0 → n ≠ 0) := fun n t => by by_cases h1 : n = 0 <;> by_cases h2 : t = 0 <;> simp [h1, h2]
  simp only [Bool.or_eq_false_iff]
  rw [c1, c1, c3, c4, c1, c6]
  exact ⟨fun ⟨⟨⟨⟨⟨a, b⟩, c⟩, d⟩, e⟩, f⟩ => ⟨a, b, c, d, e, f⟩, fun ⟨a, b, c, d, e, f⟩ => ⟨⟨⟨⟨⟨a, b⟩, c⟩, d⟩, e⟩, f⟩⟩
theorem str_zero17 (s : ByteArray) : (s.size = 0) = (s.toList = []) := by
  rw [ByteArray.toList_eq]
  show (s.data.size = 0) = (s.data.toList = [])
  rw [Array.toList_eq_nil_iff, Array.size_eq_zero_iff]
set_option maxHeartbeats 12800000 in
theorem hfo_c (k : Nat) (hk : k < 10) (s p : ByteArray) (h : Bool) (e t : Int) (w : World) (hT : TabO w) :
    Calls Tryz.prog 48 #[.agg #[.int .i64 (k : Nat), .string s, .string p, .bool h, .int .i64 e, .int .i64 t]] w fun y w' => y = .returned (.bool (foB k ⟨k, s, p, h, e, t⟩)) ∧ Bel w w' := by
  obtain ⟨R, hR⟩ : ∃ R, R = foB k ⟨k, s, p, h, e, t⟩ := ⟨_, rfl⟩
  rw [← hR]
  unfold foB at hR
  simp only [str_zero17, ne_eq] at hR
  have HR := Lib.hid hR
  have HT := Lib.hid ((hT.bel (Bel.alloc w (.cells #[.int .i64 (k : Nat), .string s, .string p, .bool h, .int .i64 e, .int .i64 t] 31))) k hk)
  have HB0 := Lib.hid ((Bel.alloc w (.cells #[.int .i64 (k : Nat), .string s, .string p, .bool h, .int .i64 e, .int .i64 t] 31)).trans (Bel.alloc _ (.cells #[.bool (tS k), .bool (tP k), .bool (tH k), .bool (tE k), .int .i64 (tT k : Nat)] 123)))
  obtain ⟨t0, t1, t2, t3, t4⟩ := HT.out
  generalize tS k = a0 at HR HB0 t0
  generalize tP k = a1 at HR HB0 t1
  generalize tH k = a2 at HR HB0 t2
  generalize tE k = a3 at HR HB0 t3
  generalize tT k = a4 at HR HB0 t4
  clear hR hT HT
  go_enter Tryz.func48, Tryz.ntmps48
  go_wp2_with fail
  all_goals go_ret
  all_goals
    refine ⟨?_, (Bel.alloc _ _).trans (Bel.alloc _ _)⟩
    have hR := HR.out
    rw [hR]
    clear hR HR HB0
    simp_all
  all_goals (by_cases hz : t = 0 <;> simp [hz])
end Go.Proofs.YtpcapmdfjmpdiaaGreatDoor
