/-
  Contracts: the reference of layer 15: Step; the law's Of.
-/
import Derived.Test.YtjfnhlmmflammaaHy15
namespace Go.Proofs.Ytjfnhlmmflammaa
open Go.RowKit Go.BigFrame
set_option linter.unusedVariables false
set_option linter.unusedSimpArgs false

set_option maxRecDepth 100000 in
set_option maxHeartbeats 3200000 in
theorem rstep_text (k : Int) (N A' P : ByteArray) (t : HS) (c : UInt8) (w : World) (q0 : (k == 0) = true)
    (hc : ∀ W, Calls Try.prog 20 #[.agg #[.int .i64 k, .string N, .string A', .string P], .int .u8 c.toNat] W (SvV (.agg #[.int .i64 (t.c : Nat), .string (ofL t.n), .string (ofL t.a), .string (ofL t.p)]) W)) :
    Calls Try.prog 9 #[stV k N A' P, .int .u8 c.toNat] w (SvV t.val w) := by
  unfold stV
  have HC := Lib.hid hc
  clear hc
  have HB2 := Lib.hid ((Bel.alloc w (.cells #[.int .i64 k, .string N, .string A', .string P] 25)).trans (Bel.alloc (w.alloc (.cells #[.int .i64 k, .string N, .string A', .string P] 25)) (.cells #[.int .i64 0, .string ⟨#[]⟩, .string ⟨#[]⟩, .string ⟨#[]⟩] 25)))
  have HR2 := Lib.hid (blk_at1h w (.cells #[.int .i64 k, .string N, .string A', .string P] 25) 25 [.int .i64 0, .string ⟨#[]⟩, .string ⟨#[]⟩, .string ⟨#[]⟩])
  go_enter Try.func9, Try.ntmps9
  go_wp2_with (go_at_call 20; ((with_reducible refine (HC.out _).mono ?_); rintro e w2 ⟨rfl, hb⟩; have HB := Lib.hid (HB2.out.trans hb); have HR := Lib.hid (HR2.out.belh hb); clear hb; obtain ⟨r0, r1, r2, r3⟩ := cells4 HR.out; obtain ⟨v0, v1, v2, v3⟩ := frees4 HR.out))
  all_goals first
    | ((with_reducible apply st_set (k := 4) (g := w.heap.size + 1)); (case hf => rfl); (case hp => rfl); (case hB => exact HR.out); (case hb => exact HB.out); (case hg => omega); rfl)
    | (exfalso; omega)
    | trace_state
set_option maxRecDepth 100000 in
set_option maxHeartbeats 3200000 in
theorem rstep_tag (k : Int) (N A' P : ByteArray) (t : HS) (c : UInt8) (w : World) (q0 : (k == 0) = false) (q1 : k ≤ 12)
    (hc : ∀ W, Calls Try.prog 21 #[.agg #[.int .i64 k, .string N, .string A', .string P], .int .u8 c.toNat] W (SvV (.agg #[.int .i64 (t.c : Nat), .string (ofL t.n), .string (ofL t.a), .string (ofL t.p)]) W)) :
    Calls Try.prog 9 #[stV k N A' P, .int .u8 c.toNat] w (SvV t.val w) := by
  unfold stV
  have HC := Lib.hid hc
  clear hc
  have HB2 := Lib.hid ((Bel.alloc w (.cells #[.int .i64 k, .string N, .string A', .string P] 25)).trans (Bel.alloc (w.alloc (.cells #[.int .i64 k, .string N, .string A', .string P] 25)) (.cells #[.int .i64 0, .string ⟨#[]⟩, .string ⟨#[]⟩, .string ⟨#[]⟩] 25)))
  have HR2 := Lib.hid (blk_at1h w (.cells #[.int .i64 k, .string N, .string A', .string P] 25) 25 [.int .i64 0, .string ⟨#[]⟩, .string ⟨#[]⟩, .string ⟨#[]⟩])
  go_enter Try.func9, Try.ntmps9
  go_wp2_with (go_at_call 21; ((with_reducible refine (HC.out _).mono ?_); rintro e w2 ⟨rfl, hb⟩; have HB := Lib.hid (HB2.out.trans hb); have HR := Lib.hid (HR2.out.belh hb); clear hb; obtain ⟨r0, r1, r2, r3⟩ := cells4 HR.out; obtain ⟨v0, v1, v2, v3⟩ := frees4 HR.out))
  all_goals first
    | ((with_reducible apply st_set (k := 4) (g := w.heap.size + 1)); (case hf => rfl); (case hp => rfl); (case hB => exact HR.out); (case hb => exact HB.out); (case hg => omega); rfl)
    | (exfalso; omega)
    | trace_state
set_option maxRecDepth 100000 in
set_option maxHeartbeats 3200000 in
theorem rstep_com (k : Int) (N A' P : ByteArray) (t : HS) (c : UInt8) (w : World) (q0 : (k == 0) = false) (q1 : ¬ k ≤ 12) (q2 : (k == 13) = true)
    (hc : ∀ W, Calls Try.prog 22 #[.agg #[.int .i64 k, .string N, .string A', .string P], .int .u8 c.toNat] W (SvV (.agg #[.int .i64 (t.c : Nat), .string (ofL t.n), .string (ofL t.a), .string (ofL t.p)]) W)) :
    Calls Try.prog 9 #[stV k N A' P, .int .u8 c.toNat] w (SvV t.val w) := by
  unfold stV
  have HC := Lib.hid hc
  clear hc
  have HB2 := Lib.hid ((Bel.alloc w (.cells #[.int .i64 k, .string N, .string A', .string P] 25)).trans (Bel.alloc (w.alloc (.cells #[.int .i64 k, .string N, .string A', .string P] 25)) (.cells #[.int .i64 0, .string ⟨#[]⟩, .string ⟨#[]⟩, .string ⟨#[]⟩] 25)))
  have HR2 := Lib.hid (blk_at1h w (.cells #[.int .i64 k, .string N, .string A', .string P] 25) 25 [.int .i64 0, .string ⟨#[]⟩, .string ⟨#[]⟩, .string ⟨#[]⟩])
  go_enter Try.func9, Try.ntmps9
  go_wp2_with (go_at_call 22; ((with_reducible refine (HC.out _).mono ?_); rintro e w2 ⟨rfl, hb⟩; have HB := Lib.hid (HB2.out.trans hb); have HR := Lib.hid (HR2.out.belh hb); clear hb; obtain ⟨r0, r1, r2, r3⟩ := cells4 HR.out; obtain ⟨v0, v1, v2, v3⟩ := frees4 HR.out))
  all_goals first
    | ((with_reducible apply st_set (k := 4) (g := w.heap.size + 1)); (case hf => rfl); (case hp => rfl); (case hB => exact HR.out); (case hb => exact HB.out); (case hg => omega); rfl)
    | (exfalso; omega)
    | trace_state
set_option maxRecDepth 100000 in
set_option maxHeartbeats 3200000 in
theorem rstep_raw (k : Int) (N A' P : ByteArray) (t : HS) (c : UInt8) (w : World) (q0 : (k == 0) = false) (q1 : ¬ k ≤ 12) (q2 : (k == 13) = false) (q3 : ¬ k ≤ 15)
    (hc : ∀ W, Calls Try.prog 23 #[.agg #[.int .i64 k, .string N, .string A', .string P], .int .u8 c.toNat] W (SvV (.agg #[.int .i64 (t.c : Nat), .string (ofL t.n), .string (ofL t.a), .string (ofL t.p)]) W)) :
    Calls Try.prog 9 #[stV k N A' P, .int .u8 c.toNat] w (SvV t.val w) := by
  unfold stV
  have HC := Lib.hid hc
  clear hc
  have HB2 := Lib.hid ((Bel.alloc w (.cells #[.int .i64 k, .string N, .string A', .string P] 25)).trans (Bel.alloc (w.alloc (.cells #[.int .i64 k, .string N, .string A', .string P] 25)) (.cells #[.int .i64 0, .string ⟨#[]⟩, .string ⟨#[]⟩, .string ⟨#[]⟩] 25)))
  have HR2 := Lib.hid (blk_at1h w (.cells #[.int .i64 k, .string N, .string A', .string P] 25) 25 [.int .i64 0, .string ⟨#[]⟩, .string ⟨#[]⟩, .string ⟨#[]⟩])
  go_enter Try.func9, Try.ntmps9
  go_wp2_with (go_at_call 23; ((with_reducible refine (HC.out _).mono ?_); rintro e w2 ⟨rfl, hb⟩; have HB := Lib.hid (HB2.out.trans hb); have HR := Lib.hid (HR2.out.belh hb); clear hb; obtain ⟨r0, r1, r2, r3⟩ := cells4 HR.out; obtain ⟨v0, v1, v2, v3⟩ := frees4 HR.out))
  all_goals first
    | ((with_reducible apply st_set (k := 4) (g := w.heap.size + 1)); (case hf => rfl); (case hp => rfl); (case hB => exact HR.out); (case hb => exact HB.out); (case hg => omega); rfl)
    | (exfalso; omega)
    | trace_state
set_option maxRecDepth 100000 in
set_option maxHeartbeats 3200000 in
theorem rstep_end (k : Int) (N A' P : ByteArray) (c : UInt8) (w : World) (q0 : (k == 0) = false) (q1 : ¬ k ≤ 12) (q2 : (k == 13) = false) (q3 : k ≤ 15) :
    Calls Try.prog 9 #[stV k N A' P, .int .u8 c.toNat] w (SvV (if ((c.toNat : Int) == 62) = true then stV 0 ⟨#[]⟩ ⟨#[]⟩ ⟨#[]⟩ else stV k N A' P) w) := by
  unfold stV
  go_enter Try.func9, Try.ntmps9
  go_wp2_with fail
  all_goals first
    | ((with_reducible apply st_new (k := 4) (g := w.heap.size + 1)); (case hf => rfl); (case hp => rfl); (case hg => simp); (case hb => exact (Bel.alloc _ _).trans (Bel.alloc _ _)); simp only [*, if_true, if_false, Bool.false_eq_true])
    | trace_state
/-- A step of the reference. -/
theorem rstep_c (s : HS) (c : UInt8) (w : World) (hn : s.n.length ≤ 100000) (ha : s.a.length ≤ 100000) (hp : s.p.length ≤ 100000) :
    Calls Try.prog 9 #[s.val, .int .u8 c.toNat] w (SvP (stepS s c) w) := by
  have hk : ∀ j : Nat, ((s.c : Int) == (j : Int)) = decide (s.c = j) := fun j => by rw [Bool.eq_iff_iff, beq_iff_eq, decide_eq_true_iff]; omega
  have k0 : ((s.c : Int) == 0) = decide (s.c = 0) := hk 0
  have k13 : ((s.c : Int) == 13) = decide (s.c = 13) := hk 13
  unfold stepS
  by_cases h0 : s.c = 0
  · rw [if_pos h0]
    exact rstep_text _ _ _ _ _ c w (by rw [k0, decide_eq_true h0]) fun W => rtext_c _ _ _ s.p c W
  rw [if_neg h0]
  by_cases h12 : s.c ≤ 12
  · rw [if_pos h12]
    exact rstep_tag _ _ _ _ _ c w (by rw [k0, decide_eq_false h0]) (by omega) fun W => rtag_c s c W hn ha
  rw [if_neg h12]
  by_cases h13 : s.c = 13
  · rw [if_pos h13]
    exact rstep_com _ _ _ _ _ c w (by rw [k0, decide_eq_false h0]) (by omega) (by rw [k13, decide_eq_true h13]) fun W => rcomment_c _ _ _ s.p c W
  rw [if_neg h13]
  by_cases h15 : s.c ≤ 15
  · rw [if_pos h15]
    have := rstep_end s.c (ofL s.n) (ofL s.a) (ofL s.p) c w (by rw [k0, decide_eq_false h0]) (by omega) (by rw [k13, decide_eq_false h13]) (by omega)
    have h62 : ((c.toNat : Int) == 62) = true ↔ c = 62 := by rw [u8_iff, beq_iff_eq]; rfl
    simp only [h62] at this
    by_cases hc : c = 62
    · rw [if_pos hc] at this ⊢; exact this
    · rw [if_neg hc] at this ⊢; exact this
  rw [if_neg h15]
  exact rstep_raw _ _ _ _ _ c w (by rw [k0, decide_eq_false h0]) (by omega) (by rw [k13, decide_eq_false h13]) (by omega) fun W => rraw_c s c W hp
end Go.Proofs.Ytjfnhlmmflammaa
