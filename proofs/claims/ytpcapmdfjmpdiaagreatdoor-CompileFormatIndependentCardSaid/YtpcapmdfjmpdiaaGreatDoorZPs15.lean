/-
  Contracts: the program of layer 15: Step.
-/
import Derived.Test.YtpcapmdfjmpdiaaGreatDoorZPw15
namespace Go.Proofs.YtpcapmdfjmpdiaaGreatDoor
open Go.RowKit Go.BigFrame
set_option linter.unusedVariables false
set_option linter.unusedSimpArgs false
set_option maxRecDepth 100000

set_option maxRecDepth 100000 in
set_option maxHeartbeats 3200000 in
theorem pstp_0 (N A' P : ByteArray) (t : HS) (c : UInt8) (w : World) 
    (hc : ∀ W, Calls Tryz.prog 117 #[.agg #[.int .i64 0, .string N, .string A', .string P], .int .u8 c.toNat] W (SvV (.agg #[.int .i64 (t.c : Nat), .string (ofL t.n), .string (ofL t.a), .string (ofL t.p)]) W)) :
    Calls Tryz.prog 105 #[stV 0 N A' P, .int .u8 c.toNat] w (SvV t.val w) := by
  unfold stV
  have HC := Lib.hid hc
  clear hc
  have HB2 := Lib.hid ((Bel.alloc w (.cells #[.int .i64 0, .string N, .string A', .string P] 74)).trans (Bel.alloc (w.alloc (.cells #[.int .i64 0, .string N, .string A', .string P] 74)) (.cells #[.int .i64 0, .string ⟨#[]⟩, .string ⟨#[]⟩, .string ⟨#[]⟩] 74)))
  have HR2 := Lib.hid (blk_at1h w (.cells #[.int .i64 0, .string N, .string A', .string P] 74) 74 [.int .i64 0, .string ⟨#[]⟩, .string ⟨#[]⟩, .string ⟨#[]⟩])
  go_enter Tryz.func105, Tryz.ntmps105
  go_wp2_with (go_at_call 117; ((with_reducible refine (HC.out _).mono ?_); rintro e w2 ⟨rfl, hb⟩; have HB := Lib.hid (HB2.out.trans hb); have HR := Lib.hid (HR2.out.belh hb); clear hb; obtain ⟨r0, r1, r2, r3⟩ := cells4 HR.out; obtain ⟨v0, v1, v2, v3⟩ := frees4 HR.out))
  all_goals first
    | ((with_reducible apply pst_set (k := 4) (g := w.heap.size + 1)); (case hf => rfl); (case hp => rfl); (case hB => exact HR.out); (case hb => exact HB.out); (case hg => omega); rfl)
    | trace_state
set_option maxRecDepth 100000 in
set_option maxHeartbeats 3200000 in
theorem pstp_1 (N A' P : ByteArray) (t : HS) (c : UInt8) (w : World) 
    (hc : ∀ W, Calls Tryz.prog 120 #[.agg #[.int .i64 1, .string N, .string A', .string P], .int .u8 c.toNat] W (SvV (.agg #[.int .i64 (t.c : Nat), .string (ofL t.n), .string (ofL t.a), .string (ofL t.p)]) W)) :
    Calls Tryz.prog 105 #[stV 1 N A' P, .int .u8 c.toNat] w (SvV t.val w) := by
  unfold stV
  have HC := Lib.hid hc
  clear hc
  have HB2 := Lib.hid ((Bel.alloc w (.cells #[.int .i64 1, .string N, .string A', .string P] 74)).trans (Bel.alloc (w.alloc (.cells #[.int .i64 1, .string N, .string A', .string P] 74)) (.cells #[.int .i64 0, .string ⟨#[]⟩, .string ⟨#[]⟩, .string ⟨#[]⟩] 74)))
  have HR2 := Lib.hid (blk_at1h w (.cells #[.int .i64 1, .string N, .string A', .string P] 74) 74 [.int .i64 0, .string ⟨#[]⟩, .string ⟨#[]⟩, .string ⟨#[]⟩])
  go_enter Tryz.func105, Tryz.ntmps105
  go_wp2_with (go_at_call 120; ((with_reducible refine (HC.out _).mono ?_); rintro e w2 ⟨rfl, hb⟩; have HB := Lib.hid (HB2.out.trans hb); have HR := Lib.hid (HR2.out.belh hb); clear hb; obtain ⟨r0, r1, r2, r3⟩ := cells4 HR.out; obtain ⟨v0, v1, v2, v3⟩ := frees4 HR.out))
  all_goals first
    | ((with_reducible apply pst_set (k := 4) (g := w.heap.size + 1)); (case hf => rfl); (case hp => rfl); (case hB => exact HR.out); (case hb => exact HB.out); (case hg => omega); rfl)
    | trace_state
set_option maxRecDepth 100000 in
set_option maxHeartbeats 3200000 in
theorem pstp_2 (N A' P : ByteArray) (t : HS) (c : UInt8) (w : World) 
    (hc : ∀ W, Calls Tryz.prog 120 #[.agg #[.int .i64 2, .string N, .string A', .string P], .int .u8 c.toNat] W (SvV (.agg #[.int .i64 (t.c : Nat), .string (ofL t.n), .string (ofL t.a), .string (ofL t.p)]) W)) :
    Calls Tryz.prog 105 #[stV 2 N A' P, .int .u8 c.toNat] w (SvV t.val w) := by
  unfold stV
  have HC := Lib.hid hc
  clear hc
  have HB2 := Lib.hid ((Bel.alloc w (.cells #[.int .i64 2, .string N, .string A', .string P] 74)).trans (Bel.alloc (w.alloc (.cells #[.int .i64 2, .string N, .string A', .string P] 74)) (.cells #[.int .i64 0, .string ⟨#[]⟩, .string ⟨#[]⟩, .string ⟨#[]⟩] 74)))
  have HR2 := Lib.hid (blk_at1h w (.cells #[.int .i64 2, .string N, .string A', .string P] 74) 74 [.int .i64 0, .string ⟨#[]⟩, .string ⟨#[]⟩, .string ⟨#[]⟩])
  go_enter Tryz.func105, Tryz.ntmps105
  go_wp2_with (go_at_call 120; ((with_reducible refine (HC.out _).mono ?_); rintro e w2 ⟨rfl, hb⟩; have HB := Lib.hid (HB2.out.trans hb); have HR := Lib.hid (HR2.out.belh hb); clear hb; obtain ⟨r0, r1, r2, r3⟩ := cells4 HR.out; obtain ⟨v0, v1, v2, v3⟩ := frees4 HR.out))
  all_goals first
    | ((with_reducible apply pst_set (k := 4) (g := w.heap.size + 1)); (case hf => rfl); (case hp => rfl); (case hB => exact HR.out); (case hb => exact HB.out); (case hg => omega); rfl)
    | trace_state
set_option maxRecDepth 100000 in
set_option maxHeartbeats 3200000 in
theorem pstp_3 (N A' P : ByteArray) (t : HS) (c : UInt8) (w : World) 
    (hc : ∀ W, Calls Tryz.prog 120 #[.agg #[.int .i64 3, .string N, .string A', .string P], .int .u8 c.toNat] W (SvV (.agg #[.int .i64 (t.c : Nat), .string (ofL t.n), .string (ofL t.a), .string (ofL t.p)]) W)) :
    Calls Tryz.prog 105 #[stV 3 N A' P, .int .u8 c.toNat] w (SvV t.val w) := by
  unfold stV
  have HC := Lib.hid hc
  clear hc
  have HB2 := Lib.hid ((Bel.alloc w (.cells #[.int .i64 3, .string N, .string A', .string P] 74)).trans (Bel.alloc (w.alloc (.cells #[.int .i64 3, .string N, .string A', .string P] 74)) (.cells #[.int .i64 0, .string ⟨#[]⟩, .string ⟨#[]⟩, .string ⟨#[]⟩] 74)))
  have HR2 := Lib.hid (blk_at1h w (.cells #[.int .i64 3, .string N, .string A', .string P] 74) 74 [.int .i64 0, .string ⟨#[]⟩, .string ⟨#[]⟩, .string ⟨#[]⟩])
  go_enter Tryz.func105, Tryz.ntmps105
  go_wp2_with (go_at_call 120; ((with_reducible refine (HC.out _).mono ?_); rintro e w2 ⟨rfl, hb⟩; have HB := Lib.hid (HB2.out.trans hb); have HR := Lib.hid (HR2.out.belh hb); clear hb; obtain ⟨r0, r1, r2, r3⟩ := cells4 HR.out; obtain ⟨v0, v1, v2, v3⟩ := frees4 HR.out))
  all_goals first
    | ((with_reducible apply pst_set (k := 4) (g := w.heap.size + 1)); (case hf => rfl); (case hp => rfl); (case hB => exact HR.out); (case hb => exact HB.out); (case hg => omega); rfl)
    | trace_state
set_option maxRecDepth 100000 in
set_option maxHeartbeats 3200000 in
theorem pstp_4 (N A' P : ByteArray) (t : HS) (c : UInt8) (w : World) 
    (hc : ∀ W, Calls Tryz.prog 120 #[.agg #[.int .i64 4, .string N, .string A', .string P], .int .u8 c.toNat] W (SvV (.agg #[.int .i64 (t.c : Nat), .string (ofL t.n), .string (ofL t.a), .string (ofL t.p)]) W)) :
    Calls Tryz.prog 105 #[stV 4 N A' P, .int .u8 c.toNat] w (SvV t.val w) := by
  unfold stV
  have HC := Lib.hid hc
  clear hc
  have HB2 := Lib.hid ((Bel.alloc w (.cells #[.int .i64 4, .string N, .string A', .string P] 74)).trans (Bel.alloc (w.alloc (.cells #[.int .i64 4, .string N, .string A', .string P] 74)) (.cells #[.int .i64 0, .string ⟨#[]⟩, .string ⟨#[]⟩, .string ⟨#[]⟩] 74)))
  have HR2 := Lib.hid (blk_at1h w (.cells #[.int .i64 4, .string N, .string A', .string P] 74) 74 [.int .i64 0, .string ⟨#[]⟩, .string ⟨#[]⟩, .string ⟨#[]⟩])
  go_enter Tryz.func105, Tryz.ntmps105
  go_wp2_with (go_at_call 120; ((with_reducible refine (HC.out _).mono ?_); rintro e w2 ⟨rfl, hb⟩; have HB := Lib.hid (HB2.out.trans hb); have HR := Lib.hid (HR2.out.belh hb); clear hb; obtain ⟨r0, r1, r2, r3⟩ := cells4 HR.out; obtain ⟨v0, v1, v2, v3⟩ := frees4 HR.out))
  all_goals first
    | ((with_reducible apply pst_set (k := 4) (g := w.heap.size + 1)); (case hf => rfl); (case hp => rfl); (case hB => exact HR.out); (case hb => exact HB.out); (case hg => omega); rfl)
    | trace_state
set_option maxRecDepth 100000 in
set_option maxHeartbeats 3200000 in
theorem pstp_5 (N A' P : ByteArray) (t : HS) (c : UInt8) (w : World) 
    (hc : ∀ W, Calls Tryz.prog 120 #[.agg #[.int .i64 5, .string N, .string A', .string P], .int .u8 c.toNat] W (SvV (.agg #[.int .i64 (t.c : Nat), .string (ofL t.n), .string (ofL t.a), .string (ofL t.p)]) W)) :
    Calls Tryz.prog 105 #[stV 5 N A' P, .int .u8 c.toNat] w (SvV t.val w) := by
  unfold stV
  have HC := Lib.hid hc
  clear hc
  have HB2 := Lib.hid ((Bel.alloc w (.cells #[.int .i64 5, .string N, .string A', .string P] 74)).trans (Bel.alloc (w.alloc (.cells #[.int .i64 5, .string N, .string A', .string P] 74)) (.cells #[.int .i64 0, .string ⟨#[]⟩, .string ⟨#[]⟩, .string ⟨#[]⟩] 74)))
  have HR2 := Lib.hid (blk_at1h w (.cells #[.int .i64 5, .string N, .string A', .string P] 74) 74 [.int .i64 0, .string ⟨#[]⟩, .string ⟨#[]⟩, .string ⟨#[]⟩])
  go_enter Tryz.func105, Tryz.ntmps105
  go_wp2_with (go_at_call 120; ((with_reducible refine (HC.out _).mono ?_); rintro e w2 ⟨rfl, hb⟩; have HB := Lib.hid (HB2.out.trans hb); have HR := Lib.hid (HR2.out.belh hb); clear hb; obtain ⟨r0, r1, r2, r3⟩ := cells4 HR.out; obtain ⟨v0, v1, v2, v3⟩ := frees4 HR.out))
  all_goals first
    | ((with_reducible apply pst_set (k := 4) (g := w.heap.size + 1)); (case hf => rfl); (case hp => rfl); (case hB => exact HR.out); (case hb => exact HB.out); (case hg => omega); rfl)
    | trace_state
set_option maxRecDepth 100000 in
set_option maxHeartbeats 3200000 in
theorem pstp_6 (N A' P : ByteArray) (t : HS) (c : UInt8) (w : World) 
    (hc : ∀ W, Calls Tryz.prog 120 #[.agg #[.int .i64 6, .string N, .string A', .string P], .int .u8 c.toNat] W (SvV (.agg #[.int .i64 (t.c : Nat), .string (ofL t.n), .string (ofL t.a), .string (ofL t.p)]) W)) :
    Calls Tryz.prog 105 #[stV 6 N A' P, .int .u8 c.toNat] w (SvV t.val w) := by
  unfold stV
  have HC := Lib.hid hc
  clear hc
  have HB2 := Lib.hid ((Bel.alloc w (.cells #[.int .i64 6, .string N, .string A', .string P] 74)).trans (Bel.alloc (w.alloc (.cells #[.int .i64 6, .string N, .string A', .string P] 74)) (.cells #[.int .i64 0, .string ⟨#[]⟩, .string ⟨#[]⟩, .string ⟨#[]⟩] 74)))
  have HR2 := Lib.hid (blk_at1h w (.cells #[.int .i64 6, .string N, .string A', .string P] 74) 74 [.int .i64 0, .string ⟨#[]⟩, .string ⟨#[]⟩, .string ⟨#[]⟩])
  go_enter Tryz.func105, Tryz.ntmps105
  go_wp2_with (go_at_call 120; ((with_reducible refine (HC.out _).mono ?_); rintro e w2 ⟨rfl, hb⟩; have HB := Lib.hid (HB2.out.trans hb); have HR := Lib.hid (HR2.out.belh hb); clear hb; obtain ⟨r0, r1, r2, r3⟩ := cells4 HR.out; obtain ⟨v0, v1, v2, v3⟩ := frees4 HR.out))
  all_goals first
    | ((with_reducible apply pst_set (k := 4) (g := w.heap.size + 1)); (case hf => rfl); (case hp => rfl); (case hB => exact HR.out); (case hb => exact HB.out); (case hg => omega); rfl)
    | trace_state
set_option maxRecDepth 100000 in
set_option maxHeartbeats 3200000 in
theorem pstp_13 (N A' P : ByteArray) (t : HS) (c : UInt8) (w : World) 
    (hc : ∀ W, Calls Tryz.prog 119 #[.agg #[.int .i64 13, .string N, .string A', .string P], .int .u8 c.toNat] W (SvV (.agg #[.int .i64 (t.c : Nat), .string (ofL t.n), .string (ofL t.a), .string (ofL t.p)]) W)) :
    Calls Tryz.prog 105 #[stV 13 N A' P, .int .u8 c.toNat] w (SvV t.val w) := by
  unfold stV
  have HC := Lib.hid hc
  clear hc
  have HB2 := Lib.hid ((Bel.alloc w (.cells #[.int .i64 13, .string N, .string A', .string P] 74)).trans (Bel.alloc (w.alloc (.cells #[.int .i64 13, .string N, .string A', .string P] 74)) (.cells #[.int .i64 0, .string ⟨#[]⟩, .string ⟨#[]⟩, .string ⟨#[]⟩] 74)))
  have HR2 := Lib.hid (blk_at1h w (.cells #[.int .i64 13, .string N, .string A', .string P] 74) 74 [.int .i64 0, .string ⟨#[]⟩, .string ⟨#[]⟩, .string ⟨#[]⟩])
  go_enter Tryz.func105, Tryz.ntmps105
  go_wp2_with (go_at_call 119; ((with_reducible refine (HC.out _).mono ?_); rintro e w2 ⟨rfl, hb⟩; have HB := Lib.hid (HB2.out.trans hb); have HR := Lib.hid (HR2.out.belh hb); clear hb; obtain ⟨r0, r1, r2, r3⟩ := cells4 HR.out; obtain ⟨v0, v1, v2, v3⟩ := frees4 HR.out))
  all_goals first
    | ((with_reducible apply pst_set (k := 4) (g := w.heap.size + 1)); (case hf => rfl); (case hp => rfl); (case hB => exact HR.out); (case hb => exact HB.out); (case hg => omega); rfl)
    | trace_state
set_option maxRecDepth 100000 in
set_option maxHeartbeats 3200000 in
theorem pstp_14 (N A' P : ByteArray) (t : HS) (c : UInt8) (w : World) 
    (hc : ∀ W, Calls Tryz.prog 118 #[.agg #[.int .i64 14, .string N, .string A', .string P], .int .u8 c.toNat, .int .u8 62, .agg #[.int .i64 0, .string ⟨#[]⟩, .string ⟨#[]⟩, .string ⟨#[]⟩]] W (SvV (.agg #[.int .i64 (t.c : Nat), .string (ofL t.n), .string (ofL t.a), .string (ofL t.p)]) W)) :
    Calls Tryz.prog 105 #[stV 14 N A' P, .int .u8 c.toNat] w (SvV t.val w) := by
  unfold stV
  have HC := Lib.hid hc
  clear hc
  have HB2 := Lib.hid ((Bel.alloc w (.cells #[.int .i64 14, .string N, .string A', .string P] 74)).trans (Bel.alloc (w.alloc (.cells #[.int .i64 14, .string N, .string A', .string P] 74)) (.cells #[.int .i64 0, .string ⟨#[]⟩, .string ⟨#[]⟩, .string ⟨#[]⟩] 74)))
  have HR2 := Lib.hid (blk_at1h w (.cells #[.int .i64 14, .string N, .string A', .string P] 74) 74 [.int .i64 0, .string ⟨#[]⟩, .string ⟨#[]⟩, .string ⟨#[]⟩])
  go_enter Tryz.func105, Tryz.ntmps105
  go_wp2_with (go_at_call 118; ((with_reducible refine (HC.out _).mono ?_); rintro e w2 ⟨rfl, hb⟩; have HB := Lib.hid (HB2.out.trans hb); have HR := Lib.hid (HR2.out.belh hb); clear hb; obtain ⟨r0, r1, r2, r3⟩ := cells4 HR.out; obtain ⟨v0, v1, v2, v3⟩ := frees4 HR.out))
  all_goals first
    | ((with_reducible apply pst_set (k := 4) (g := w.heap.size + 1)); (case hf => rfl); (case hp => rfl); (case hB => exact HR.out); (case hb => exact HB.out); (case hg => omega); rfl)
    | trace_state
set_option maxRecDepth 100000 in
set_option maxHeartbeats 3200000 in
theorem pstp_15 (N A' P : ByteArray) (t : HS) (c : UInt8) (w : World) 
    (hc : ∀ W, Calls Tryz.prog 118 #[.agg #[.int .i64 15, .string N, .string A', .string P], .int .u8 c.toNat, .int .u8 62, .agg #[.int .i64 0, .string ⟨#[]⟩, .string ⟨#[]⟩, .string ⟨#[]⟩]] W (SvV (.agg #[.int .i64 (t.c : Nat), .string (ofL t.n), .string (ofL t.a), .string (ofL t.p)]) W)) :
    Calls Tryz.prog 105 #[stV 15 N A' P, .int .u8 c.toNat] w (SvV t.val w) := by
  unfold stV
  have HC := Lib.hid hc
  clear hc
  have HB2 := Lib.hid ((Bel.alloc w (.cells #[.int .i64 15, .string N, .string A', .string P] 74)).trans (Bel.alloc (w.alloc (.cells #[.int .i64 15, .string N, .string A', .string P] 74)) (.cells #[.int .i64 0, .string ⟨#[]⟩, .string ⟨#[]⟩, .string ⟨#[]⟩] 74)))
  have HR2 := Lib.hid (blk_at1h w (.cells #[.int .i64 15, .string N, .string A', .string P] 74) 74 [.int .i64 0, .string ⟨#[]⟩, .string ⟨#[]⟩, .string ⟨#[]⟩])
  go_enter Tryz.func105, Tryz.ntmps105
  go_wp2_with (go_at_call 118; ((with_reducible refine (HC.out _).mono ?_); rintro e w2 ⟨rfl, hb⟩; have HB := Lib.hid (HB2.out.trans hb); have HR := Lib.hid (HR2.out.belh hb); clear hb; obtain ⟨r0, r1, r2, r3⟩ := cells4 HR.out; obtain ⟨v0, v1, v2, v3⟩ := frees4 HR.out))
  all_goals first
    | ((with_reducible apply pst_set (k := 4) (g := w.heap.size + 1)); (case hf => rfl); (case hp => rfl); (case hB => exact HR.out); (case hb => exact HB.out); (case hg => omega); rfl)
    | trace_state
set_option maxRecDepth 100000 in
set_option maxHeartbeats 3200000 in
theorem pstp_16 (N A' P : ByteArray) (t : HS) (c : UInt8) (w : World) 
    (hc : ∀ W, Calls Tryz.prog 122 #[.agg #[.int .i64 16, .string N, .string A', .string P], .int .u8 c.toNat] W (SvV (.agg #[.int .i64 (t.c : Nat), .string (ofL t.n), .string (ofL t.a), .string (ofL t.p)]) W)) :
    Calls Tryz.prog 105 #[stV 16 N A' P, .int .u8 c.toNat] w (SvV t.val w) := by
  unfold stV
  have HC := Lib.hid hc
  clear hc
  have HB2 := Lib.hid ((Bel.alloc w (.cells #[.int .i64 16, .string N, .string A', .string P] 74)).trans (Bel.alloc (w.alloc (.cells #[.int .i64 16, .string N, .string A', .string P] 74)) (.cells #[.int .i64 0, .string ⟨#[]⟩, .string ⟨#[]⟩, .string ⟨#[]⟩] 74)))
  have HR2 := Lib.hid (blk_at1h w (.cells #[.int .i64 16, .string N, .string A', .string P] 74) 74 [.int .i64 0, .string ⟨#[]⟩, .string ⟨#[]⟩, .string ⟨#[]⟩])
  go_enter Tryz.func105, Tryz.ntmps105
  go_wp2_with (go_at_call 122; ((with_reducible refine (HC.out _).mono ?_); rintro e w2 ⟨rfl, hb⟩; have HB := Lib.hid (HB2.out.trans hb); have HR := Lib.hid (HR2.out.belh hb); clear hb; obtain ⟨r0, r1, r2, r3⟩ := cells4 HR.out; obtain ⟨v0, v1, v2, v3⟩ := frees4 HR.out))
  all_goals first
    | ((with_reducible apply pst_set (k := 4) (g := w.heap.size + 1)); (case hf => rfl); (case hp => rfl); (case hB => exact HR.out); (case hb => exact HB.out); (case hg => omega); rfl)
    | trace_state
set_option maxRecDepth 100000 in
set_option maxHeartbeats 3200000 in
theorem pstp_17 (N A' P : ByteArray) (t : HS) (c : UInt8) (w : World) 
    (hc : ∀ W, Calls Tryz.prog 122 #[.agg #[.int .i64 17, .string N, .string A', .string P], .int .u8 c.toNat] W (SvV (.agg #[.int .i64 (t.c : Nat), .string (ofL t.n), .string (ofL t.a), .string (ofL t.p)]) W)) :
    Calls Tryz.prog 105 #[stV 17 N A' P, .int .u8 c.toNat] w (SvV t.val w) := by
  unfold stV
  have HC := Lib.hid hc
  clear hc
  have HB2 := Lib.hid ((Bel.alloc w (.cells #[.int .i64 17, .string N, .string A', .string P] 74)).trans (Bel.alloc (w.alloc (.cells #[.int .i64 17, .string N, .string A', .string P] 74)) (.cells #[.int .i64 0, .string ⟨#[]⟩, .string ⟨#[]⟩, .string ⟨#[]⟩] 74)))
  have HR2 := Lib.hid (blk_at1h w (.cells #[.int .i64 17, .string N, .string A', .string P] 74) 74 [.int .i64 0, .string ⟨#[]⟩, .string ⟨#[]⟩, .string ⟨#[]⟩])
  go_enter Tryz.func105, Tryz.ntmps105
  go_wp2_with (go_at_call 122; ((with_reducible refine (HC.out _).mono ?_); rintro e w2 ⟨rfl, hb⟩; have HB := Lib.hid (HB2.out.trans hb); have HR := Lib.hid (HR2.out.belh hb); clear hb; obtain ⟨r0, r1, r2, r3⟩ := cells4 HR.out; obtain ⟨v0, v1, v2, v3⟩ := frees4 HR.out))
  all_goals first
    | ((with_reducible apply pst_set (k := 4) (g := w.heap.size + 1)); (case hf => rfl); (case hp => rfl); (case hB => exact HR.out); (case hb => exact HB.out); (case hg => omega); rfl)
    | trace_state
set_option maxRecDepth 100000 in
set_option maxHeartbeats 3200000 in
theorem pstp_18 (N A' P : ByteArray) (t : HS) (c : UInt8) (w : World) 
    (hc : ∀ W, Calls Tryz.prog 122 #[.agg #[.int .i64 18, .string N, .string A', .string P], .int .u8 c.toNat] W (SvV (.agg #[.int .i64 (t.c : Nat), .string (ofL t.n), .string (ofL t.a), .string (ofL t.p)]) W)) :
    Calls Tryz.prog 105 #[stV 18 N A' P, .int .u8 c.toNat] w (SvV t.val w) := by
  unfold stV
  have HC := Lib.hid hc
  clear hc
  have HB2 := Lib.hid ((Bel.alloc w (.cells #[.int .i64 18, .string N, .string A', .string P] 74)).trans (Bel.alloc (w.alloc (.cells #[.int .i64 18, .string N, .string A', .string P] 74)) (.cells #[.int .i64 0, .string ⟨#[]⟩, .string ⟨#[]⟩, .string ⟨#[]⟩] 74)))
  have HR2 := Lib.hid (blk_at1h w (.cells #[.int .i64 18, .string N, .string A', .string P] 74) 74 [.int .i64 0, .string ⟨#[]⟩, .string ⟨#[]⟩, .string ⟨#[]⟩])
  go_enter Tryz.func105, Tryz.ntmps105
  go_wp2_with (go_at_call 122; ((with_reducible refine (HC.out _).mono ?_); rintro e w2 ⟨rfl, hb⟩; have HB := Lib.hid (HB2.out.trans hb); have HR := Lib.hid (HR2.out.belh hb); clear hb; obtain ⟨r0, r1, r2, r3⟩ := cells4 HR.out; obtain ⟨v0, v1, v2, v3⟩ := frees4 HR.out))
  all_goals first
    | ((with_reducible apply pst_set (k := 4) (g := w.heap.size + 1)); (case hf => rfl); (case hp => rfl); (case hB => exact HR.out); (case hb => exact HB.out); (case hg => omega); rfl)
    | trace_state
set_option maxRecDepth 100000 in
set_option maxHeartbeats 3200000 in
theorem pstp_19 (N A' P : ByteArray) (t : HS) (c : UInt8) (w : World) 
    (hc : ∀ W, Calls Tryz.prog 122 #[.agg #[.int .i64 19, .string N, .string A', .string P], .int .u8 c.toNat] W (SvV (.agg #[.int .i64 (t.c : Nat), .string (ofL t.n), .string (ofL t.a), .string (ofL t.p)]) W)) :
    Calls Tryz.prog 105 #[stV 19 N A' P, .int .u8 c.toNat] w (SvV t.val w) := by
  unfold stV
  have HC := Lib.hid hc
  clear hc
  have HB2 := Lib.hid ((Bel.alloc w (.cells #[.int .i64 19, .string N, .string A', .string P] 74)).trans (Bel.alloc (w.alloc (.cells #[.int .i64 19, .string N, .string A', .string P] 74)) (.cells #[.int .i64 0, .string ⟨#[]⟩, .string ⟨#[]⟩, .string ⟨#[]⟩] 74)))
  have HR2 := Lib.hid (blk_at1h w (.cells #[.int .i64 19, .string N, .string A', .string P] 74) 74 [.int .i64 0, .string ⟨#[]⟩, .string ⟨#[]⟩, .string ⟨#[]⟩])
  go_enter Tryz.func105, Tryz.ntmps105
  go_wp2_with (go_at_call 122; ((with_reducible refine (HC.out _).mono ?_); rintro e w2 ⟨rfl, hb⟩; have HB := Lib.hid (HB2.out.trans hb); have HR := Lib.hid (HR2.out.belh hb); clear hb; obtain ⟨r0, r1, r2, r3⟩ := cells4 HR.out; obtain ⟨v0, v1, v2, v3⟩ := frees4 HR.out))
  all_goals first
    | ((with_reducible apply pst_set (k := 4) (g := w.heap.size + 1)); (case hf => rfl); (case hp => rfl); (case hB => exact HR.out); (case hb => exact HB.out); (case hg => omega); rfl)
    | trace_state
set_option maxRecDepth 100000 in
set_option maxHeartbeats 3200000 in
theorem pstp_20 (N A' P : ByteArray) (t : HS) (c : UInt8) (w : World) 
    (hc : ∀ W, Calls Tryz.prog 122 #[.agg #[.int .i64 20, .string N, .string A', .string P], .int .u8 c.toNat] W (SvV (.agg #[.int .i64 (t.c : Nat), .string (ofL t.n), .string (ofL t.a), .string (ofL t.p)]) W)) :
    Calls Tryz.prog 105 #[stV 20 N A' P, .int .u8 c.toNat] w (SvV t.val w) := by
  unfold stV
  have HC := Lib.hid hc
  clear hc
  have HB2 := Lib.hid ((Bel.alloc w (.cells #[.int .i64 20, .string N, .string A', .string P] 74)).trans (Bel.alloc (w.alloc (.cells #[.int .i64 20, .string N, .string A', .string P] 74)) (.cells #[.int .i64 0, .string ⟨#[]⟩, .string ⟨#[]⟩, .string ⟨#[]⟩] 74)))
  have HR2 := Lib.hid (blk_at1h w (.cells #[.int .i64 20, .string N, .string A', .string P] 74) 74 [.int .i64 0, .string ⟨#[]⟩, .string ⟨#[]⟩, .string ⟨#[]⟩])
  go_enter Tryz.func105, Tryz.ntmps105
  go_wp2_with (go_at_call 122; ((with_reducible refine (HC.out _).mono ?_); rintro e w2 ⟨rfl, hb⟩; have HB := Lib.hid (HB2.out.trans hb); have HR := Lib.hid (HR2.out.belh hb); clear hb; obtain ⟨r0, r1, r2, r3⟩ := cells4 HR.out; obtain ⟨v0, v1, v2, v3⟩ := frees4 HR.out))
  all_goals first
    | ((with_reducible apply pst_set (k := 4) (g := w.heap.size + 1)); (case hf => rfl); (case hp => rfl); (case hB => exact HR.out); (case hb => exact HB.out); (case hg => omega); rfl)
    | trace_state
set_option maxRecDepth 100000 in
set_option maxHeartbeats 3200000 in
theorem pstp_21 (N A' P : ByteArray) (t : HS) (c : UInt8) (w : World) 
    (hc : ∀ W, Calls Tryz.prog 122 #[.agg #[.int .i64 21, .string N, .string A', .string P], .int .u8 c.toNat] W (SvV (.agg #[.int .i64 (t.c : Nat), .string (ofL t.n), .string (ofL t.a), .string (ofL t.p)]) W)) :
    Calls Tryz.prog 105 #[stV 21 N A' P, .int .u8 c.toNat] w (SvV t.val w) := by
  unfold stV
  have HC := Lib.hid hc
  clear hc
  have HB2 := Lib.hid ((Bel.alloc w (.cells #[.int .i64 21, .string N, .string A', .string P] 74)).trans (Bel.alloc (w.alloc (.cells #[.int .i64 21, .string N, .string A', .string P] 74)) (.cells #[.int .i64 0, .string ⟨#[]⟩, .string ⟨#[]⟩, .string ⟨#[]⟩] 74)))
  have HR2 := Lib.hid (blk_at1h w (.cells #[.int .i64 21, .string N, .string A', .string P] 74) 74 [.int .i64 0, .string ⟨#[]⟩, .string ⟨#[]⟩, .string ⟨#[]⟩])
  go_enter Tryz.func105, Tryz.ntmps105
  go_wp2_with (go_at_call 122; ((with_reducible refine (HC.out _).mono ?_); rintro e w2 ⟨rfl, hb⟩; have HB := Lib.hid (HB2.out.trans hb); have HR := Lib.hid (HR2.out.belh hb); clear hb; obtain ⟨r0, r1, r2, r3⟩ := cells4 HR.out; obtain ⟨v0, v1, v2, v3⟩ := frees4 HR.out))
  all_goals first
    | ((with_reducible apply pst_set (k := 4) (g := w.heap.size + 1)); (case hf => rfl); (case hp => rfl); (case hB => exact HR.out); (case hb => exact HB.out); (case hg => omega); rfl)
    | trace_state
set_option maxRecDepth 100000 in
set_option maxHeartbeats 3200000 in
theorem pstp_7 (N A' P : ByteArray) (t : HS) (c : UInt8) (w : World)
    (hc : ∀ W, Calls Tryz.prog 118 #[.agg #[.int .i64 7, .string N, .string A', .string P], .int .u8 c.toNat, .int .u8 34, .agg #[.int .i64 1, .string N, .string ⟨#[]⟩, .string ⟨#[]⟩]] W (SvV (.agg #[.int .i64 (t.c : Nat), .string (ofL t.n), .string (ofL t.a), .string (ofL t.p)]) W)) :
    Calls Tryz.prog 105 #[stV 7 N A' P, .int .u8 c.toNat] w (SvV t.val w) := by
  unfold stV
  have HC := Lib.hid hc
  clear hc
  have HTG : Hid (∀ W, Calls Tryz.prog 121 #[.agg #[.int .i64 7, .string N, .string A', .string P]] W (SvV (.agg #[.int .i64 1, .string N, .string ⟨#[]⟩, .string ⟨#[]⟩]) W)) := Lib.hid (fun W => ptag_c 7 N A' P W)
  have HB2 := Lib.hid ((Bel.alloc w (.cells #[.int .i64 7, .string N, .string A', .string P] 74)).trans (Bel.alloc (w.alloc (.cells #[.int .i64 7, .string N, .string A', .string P] 74)) (.cells #[.int .i64 0, .string ⟨#[]⟩, .string ⟨#[]⟩, .string ⟨#[]⟩] 74)))
  have HR2 := Lib.hid (blk_at1h w (.cells #[.int .i64 7, .string N, .string A', .string P] 74) 74 [.int .i64 0, .string ⟨#[]⟩, .string ⟨#[]⟩, .string ⟨#[]⟩])
  have HX2 := Lib.hid ((Blk.new w 74 [.int .i64 7, .string N, .string A', .string P]).alloc (.cells #[.int .i64 0, .string ⟨#[]⟩, .string ⟨#[]⟩, .string ⟨#[]⟩] 74))
  go_enter Tryz.func105, Tryz.ntmps105
  go_wp2_with fail
  refine region_begin (T := [w.heap.size + 1]) (by kernel_rfl) ?_
  have HBd := Lib.hid (HB2.out.trans (Bel.drew _))
  have HRd := Lib.hid HR2.out.drew
  have HXd := Lib.hid HX2.out.drew
  generalize ((w.alloc (.cells #[.int .i64 7, .string N, .string A', .string P] 74)).alloc (.cells #[.int .i64 0, .string ⟨#[]⟩, .string ⟨#[]⟩, .string ⟨#[]⟩] 74)).drew = Wd at HBd HRd HXd ⊢
  have p0 : ∀ X : Later [w.heap.size + 1] Wd, X.w.cell? ⟨w.heap.size, 0, none⟩ = some (.int .i64 7) := fun X => (HXd.out.only X.h (by simp)).cell 0
  have p1 : ∀ X : Later [w.heap.size + 1] Wd, X.w.cell? ⟨w.heap.size, 1, none⟩ = some (.string N) := fun X => (HXd.out.only X.h (by simp)).cell 1
  have p2 : ∀ X : Later [w.heap.size + 1] Wd, X.w.cell? ⟨w.heap.size, 2, none⟩ = some (.string A') := fun X => (HXd.out.only X.h (by simp)).cell 2
  have p3 : ∀ X : Later [w.heap.size + 1] Wd, X.w.cell? ⟨w.heap.size, 3, none⟩ = some (.string P) := fun X => (HXd.out.only X.h (by simp)).cell 3
  refine region_seg [true, true, true] 3 (by kernel_rfl) (by kernel_rfl) (by kernel_rfl) rfl (fun _ _ d _ _ h => by cases d <;> exact h) ?_
  repeat (first | with_reducible refine wpMask_pass ?_ | (refine wpMask_want (by rfl) (fun K hK => ?_); go_big_quiet_op; refine hK _ ?_; clear hK K))
  with_reducible refine wpMask_nil ?_
  clear p0 p1 p2 p3
  refine region_call 3 (by kernel_rfl) rfl (by rfl) (by go_simp; exact ⟨rfl, rfl⟩) ?_
  (with_reducible refine (HTG.out _).mono ?_); rintro e w2 ⟨rfl, hb⟩; refine ⟨_, rfl, (Only.refl [w.heap.size + 1] _).join (bel_only hb) (by simp), ?_⟩
  replace HBd := Lib.hid (HBd.out.trans hb)
  replace HRd := Lib.hid (HRd.out.belh hb)
  clear hb
  simp only [List.getElem_toArray, List.getElem_cons_zero, List.getElem_cons_succ, Act.put, List.setIfInBounds_toArray, List.set_cons_zero, List.set_cons_succ]
  refine region_call 4 (by kernel_rfl) rfl (by rfl) (by go_simp; exact ⟨rfl, rfl⟩) ?_
  (with_reducible refine (HC.out _).mono ?_); rintro e w3 ⟨rfl, hb⟩; refine ⟨_, rfl, (Only.refl [w.heap.size + 1] _).join (bel_only hb) (by simp), ?_⟩
  replace HBd := Lib.hid (HBd.out.trans hb)
  replace HRd := Lib.hid (HRd.out.belh hb)
  clear hb
  simp only [List.getElem_toArray, List.getElem_cons_zero, List.getElem_cons_succ, Act.put, List.setIfInBounds_toArray, List.set_cons_zero, List.set_cons_succ]
  obtain ⟨r0, r1, r2, r3⟩ := cells4 HRd.out
  obtain ⟨v0, v1, v2, v3⟩ := frees4 HRd.out
  refine region_store 5 (w1 := ((((w3.setCell ⟨w.heap.size + 1, 0, none⟩ (.int .i64 (t.c : Nat))).setCell ⟨w.heap.size + 1, 1, none⟩ (.string (ofL t.n))).setCell ⟨w.heap.size + 1, 2, none⟩ (.string (ofL t.a))).setCell ⟨w.heap.size + 1, 3, none⟩ (.string (ofL t.p)))) (by kernel_rfl) rfl (by rfl) (by go_simp) (((((Only.refl [w.heap.size + 1] _).setCell (.inl (by simp)) _).setCell (.inl (by simp)) _).setCell (.inl (by simp)) _).setCell (.inl (by simp)) _) ?_
  simp only [List.getElem_toArray, List.getElem_cons_zero, List.getElem_cons_succ, Act.put, List.setIfInBounds_toArray, List.set_cons_zero, List.set_cons_succ]
  refine region_end (by kernel_rfl) ?_
  go_wp2_with fail
  (with_reducible apply pst_set (k := 4) (g := w.heap.size + 1))
  case hf => rfl
  case hp => rfl
  case hB => exact HRd.out
  case hb => exact HBd.out
  case hg => omega
  rfl
set_option maxRecDepth 100000 in
set_option maxHeartbeats 3200000 in
theorem pstp_8 (N A' P : ByteArray) (t : HS) (c : UInt8) (w : World)
    (hc : ∀ W, Calls Tryz.prog 118 #[.agg #[.int .i64 8, .string N, .string A', .string P], .int .u8 c.toNat, .int .u8 39, .agg #[.int .i64 1, .string N, .string ⟨#[]⟩, .string ⟨#[]⟩]] W (SvV (.agg #[.int .i64 (t.c : Nat), .string (ofL t.n), .string (ofL t.a), .string (ofL t.p)]) W)) :
    Calls Tryz.prog 105 #[stV 8 N A' P, .int .u8 c.toNat] w (SvV t.val w) := by
  unfold stV
  have HC := Lib.hid hc
  clear hc
  have HTG : Hid (∀ W, Calls Tryz.prog 121 #[.agg #[.int .i64 8, .string N, .string A', .string P]] W (SvV (.agg #[.int .i64 1, .string N, .string ⟨#[]⟩, .string ⟨#[]⟩]) W)) := Lib.hid (fun W => ptag_c 8 N A' P W)
  have HB2 := Lib.hid ((Bel.alloc w (.cells #[.int .i64 8, .string N, .string A', .string P] 74)).trans (Bel.alloc (w.alloc (.cells #[.int .i64 8, .string N, .string A', .string P] 74)) (.cells #[.int .i64 0, .string ⟨#[]⟩, .string ⟨#[]⟩, .string ⟨#[]⟩] 74)))
  have HR2 := Lib.hid (blk_at1h w (.cells #[.int .i64 8, .string N, .string A', .string P] 74) 74 [.int .i64 0, .string ⟨#[]⟩, .string ⟨#[]⟩, .string ⟨#[]⟩])
  have HX2 := Lib.hid ((Blk.new w 74 [.int .i64 8, .string N, .string A', .string P]).alloc (.cells #[.int .i64 0, .string ⟨#[]⟩, .string ⟨#[]⟩, .string ⟨#[]⟩] 74))
  go_enter Tryz.func105, Tryz.ntmps105
  go_wp2_with fail
  refine region_begin (T := [w.heap.size + 1]) (by kernel_rfl) ?_
  have HBd := Lib.hid (HB2.out.trans (Bel.drew _))
  have HRd := Lib.hid HR2.out.drew
  have HXd := Lib.hid HX2.out.drew
  generalize ((w.alloc (.cells #[.int .i64 8, .string N, .string A', .string P] 74)).alloc (.cells #[.int .i64 0, .string ⟨#[]⟩, .string ⟨#[]⟩, .string ⟨#[]⟩] 74)).drew = Wd at HBd HRd HXd ⊢
  have p0 : ∀ X : Later [w.heap.size + 1] Wd, X.w.cell? ⟨w.heap.size, 0, none⟩ = some (.int .i64 8) := fun X => (HXd.out.only X.h (by simp)).cell 0
  have p1 : ∀ X : Later [w.heap.size + 1] Wd, X.w.cell? ⟨w.heap.size, 1, none⟩ = some (.string N) := fun X => (HXd.out.only X.h (by simp)).cell 1
  have p2 : ∀ X : Later [w.heap.size + 1] Wd, X.w.cell? ⟨w.heap.size, 2, none⟩ = some (.string A') := fun X => (HXd.out.only X.h (by simp)).cell 2
  have p3 : ∀ X : Later [w.heap.size + 1] Wd, X.w.cell? ⟨w.heap.size, 3, none⟩ = some (.string P) := fun X => (HXd.out.only X.h (by simp)).cell 3
  refine region_seg [true, true, true] 3 (by kernel_rfl) (by kernel_rfl) (by kernel_rfl) rfl (fun _ _ d _ _ h => by cases d <;> exact h) ?_
  repeat (first | with_reducible refine wpMask_pass ?_ | (refine wpMask_want (by rfl) (fun K hK => ?_); go_big_quiet_op; refine hK _ ?_; clear hK K))
  with_reducible refine wpMask_nil ?_
  clear p0 p1 p2 p3
  refine region_call 3 (by kernel_rfl) rfl (by rfl) (by go_simp; exact ⟨rfl, rfl⟩) ?_
  (with_reducible refine (HTG.out _).mono ?_); rintro e w2 ⟨rfl, hb⟩; refine ⟨_, rfl, (Only.refl [w.heap.size + 1] _).join (bel_only hb) (by simp), ?_⟩
  replace HBd := Lib.hid (HBd.out.trans hb)
  replace HRd := Lib.hid (HRd.out.belh hb)
  clear hb
  simp only [List.getElem_toArray, List.getElem_cons_zero, List.getElem_cons_succ, Act.put, List.setIfInBounds_toArray, List.set_cons_zero, List.set_cons_succ]
  refine region_call 4 (by kernel_rfl) rfl (by rfl) (by go_simp; exact ⟨rfl, rfl⟩) ?_
  (with_reducible refine (HC.out _).mono ?_); rintro e w3 ⟨rfl, hb⟩; refine ⟨_, rfl, (Only.refl [w.heap.size + 1] _).join (bel_only hb) (by simp), ?_⟩
  replace HBd := Lib.hid (HBd.out.trans hb)
  replace HRd := Lib.hid (HRd.out.belh hb)
  clear hb
  simp only [List.getElem_toArray, List.getElem_cons_zero, List.getElem_cons_succ, Act.put, List.setIfInBounds_toArray, List.set_cons_zero, List.set_cons_succ]
  obtain ⟨r0, r1, r2, r3⟩ := cells4 HRd.out
  obtain ⟨v0, v1, v2, v3⟩ := frees4 HRd.out
  refine region_store 5 (w1 := ((((w3.setCell ⟨w.heap.size + 1, 0, none⟩ (.int .i64 (t.c : Nat))).setCell ⟨w.heap.size + 1, 1, none⟩ (.string (ofL t.n))).setCell ⟨w.heap.size + 1, 2, none⟩ (.string (ofL t.a))).setCell ⟨w.heap.size + 1, 3, none⟩ (.string (ofL t.p)))) (by kernel_rfl) rfl (by rfl) (by go_simp) (((((Only.refl [w.heap.size + 1] _).setCell (.inl (by simp)) _).setCell (.inl (by simp)) _).setCell (.inl (by simp)) _).setCell (.inl (by simp)) _) ?_
  simp only [List.getElem_toArray, List.getElem_cons_zero, List.getElem_cons_succ, Act.put, List.setIfInBounds_toArray, List.set_cons_zero, List.set_cons_succ]
  refine region_end (by kernel_rfl) ?_
  go_wp2_with fail
  (with_reducible apply pst_set (k := 4) (g := w.heap.size + 1))
  case hf => rfl
  case hp => rfl
  case hB => exact HRd.out
  case hb => exact HBd.out
  case hg => omega
  rfl
set_option maxRecDepth 100000 in
set_option maxHeartbeats 3200000 in
theorem pstp_9 (N A' P : ByteArray) (t : HS) (c : UInt8) (w : World)
    (hc : ∀ W, Calls Tryz.prog 118 #[.agg #[.int .i64 9, .string N, .string A', .string P], .int .u8 c.toNat, .int .u8 34, .agg #[.int .i64 1, .string N, .string ⟨#[]⟩, .string ⟨#[]⟩]] W (SvV (.agg #[.int .i64 (t.c : Nat), .string (ofL t.n), .string (ofL t.a), .string (ofL t.p)]) W)) :
    Calls Tryz.prog 105 #[stV 9 N A' P, .int .u8 c.toNat] w (SvV t.val w) := by
  unfold stV
  have HC := Lib.hid hc
  clear hc
  have HTG : Hid (∀ W, Calls Tryz.prog 121 #[.agg #[.int .i64 9, .string N, .string A', .string P]] W (SvV (.agg #[.int .i64 1, .string N, .string ⟨#[]⟩, .string ⟨#[]⟩]) W)) := Lib.hid (fun W => ptag_c 9 N A' P W)
  have HB2 := Lib.hid ((Bel.alloc w (.cells #[.int .i64 9, .string N, .string A', .string P] 74)).trans (Bel.alloc (w.alloc (.cells #[.int .i64 9, .string N, .string A', .string P] 74)) (.cells #[.int .i64 0, .string ⟨#[]⟩, .string ⟨#[]⟩, .string ⟨#[]⟩] 74)))
  have HR2 := Lib.hid (blk_at1h w (.cells #[.int .i64 9, .string N, .string A', .string P] 74) 74 [.int .i64 0, .string ⟨#[]⟩, .string ⟨#[]⟩, .string ⟨#[]⟩])
  have HX2 := Lib.hid ((Blk.new w 74 [.int .i64 9, .string N, .string A', .string P]).alloc (.cells #[.int .i64 0, .string ⟨#[]⟩, .string ⟨#[]⟩, .string ⟨#[]⟩] 74))
  go_enter Tryz.func105, Tryz.ntmps105
  go_wp2_with fail
  refine region_begin (T := [w.heap.size + 1]) (by kernel_rfl) ?_
  have HBd := Lib.hid (HB2.out.trans (Bel.drew _))
  have HRd := Lib.hid HR2.out.drew
  have HXd := Lib.hid HX2.out.drew
  generalize ((w.alloc (.cells #[.int .i64 9, .string N, .string A', .string P] 74)).alloc (.cells #[.int .i64 0, .string ⟨#[]⟩, .string ⟨#[]⟩, .string ⟨#[]⟩] 74)).drew = Wd at HBd HRd HXd ⊢
  have p0 : ∀ X : Later [w.heap.size + 1] Wd, X.w.cell? ⟨w.heap.size, 0, none⟩ = some (.int .i64 9) := fun X => (HXd.out.only X.h (by simp)).cell 0
  have p1 : ∀ X : Later [w.heap.size + 1] Wd, X.w.cell? ⟨w.heap.size, 1, none⟩ = some (.string N) := fun X => (HXd.out.only X.h (by simp)).cell 1
  have p2 : ∀ X : Later [w.heap.size + 1] Wd, X.w.cell? ⟨w.heap.size, 2, none⟩ = some (.string A') := fun X => (HXd.out.only X.h (by simp)).cell 2
  have p3 : ∀ X : Later [w.heap.size + 1] Wd, X.w.cell? ⟨w.heap.size, 3, none⟩ = some (.string P) := fun X => (HXd.out.only X.h (by simp)).cell 3
  refine region_seg [true, true, true] 3 (by kernel_rfl) (by kernel_rfl) (by kernel_rfl) rfl (fun _ _ d _ _ h => by cases d <;> exact h) ?_
  repeat (first | with_reducible refine wpMask_pass ?_ | (refine wpMask_want (by rfl) (fun K hK => ?_); go_big_quiet_op; refine hK _ ?_; clear hK K))
  with_reducible refine wpMask_nil ?_
  clear p0 p1 p2 p3
  refine region_call 3 (by kernel_rfl) rfl (by rfl) (by go_simp; exact ⟨rfl, rfl⟩) ?_
  (with_reducible refine (HTG.out _).mono ?_); rintro e w2 ⟨rfl, hb⟩; refine ⟨_, rfl, (Only.refl [w.heap.size + 1] _).join (bel_only hb) (by simp), ?_⟩
  replace HBd := Lib.hid (HBd.out.trans hb)
  replace HRd := Lib.hid (HRd.out.belh hb)
  clear hb
  simp only [List.getElem_toArray, List.getElem_cons_zero, List.getElem_cons_succ, Act.put, List.setIfInBounds_toArray, List.set_cons_zero, List.set_cons_succ]
  refine region_call 4 (by kernel_rfl) rfl (by rfl) (by go_simp; exact ⟨rfl, rfl⟩) ?_
  (with_reducible refine (HC.out _).mono ?_); rintro e w3 ⟨rfl, hb⟩; refine ⟨_, rfl, (Only.refl [w.heap.size + 1] _).join (bel_only hb) (by simp), ?_⟩
  replace HBd := Lib.hid (HBd.out.trans hb)
  replace HRd := Lib.hid (HRd.out.belh hb)
  clear hb
  simp only [List.getElem_toArray, List.getElem_cons_zero, List.getElem_cons_succ, Act.put, List.setIfInBounds_toArray, List.set_cons_zero, List.set_cons_succ]
  obtain ⟨r0, r1, r2, r3⟩ := cells4 HRd.out
  obtain ⟨v0, v1, v2, v3⟩ := frees4 HRd.out
  refine region_store 5 (w1 := ((((w3.setCell ⟨w.heap.size + 1, 0, none⟩ (.int .i64 (t.c : Nat))).setCell ⟨w.heap.size + 1, 1, none⟩ (.string (ofL t.n))).setCell ⟨w.heap.size + 1, 2, none⟩ (.string (ofL t.a))).setCell ⟨w.heap.size + 1, 3, none⟩ (.string (ofL t.p)))) (by kernel_rfl) rfl (by rfl) (by go_simp) (((((Only.refl [w.heap.size + 1] _).setCell (.inl (by simp)) _).setCell (.inl (by simp)) _).setCell (.inl (by simp)) _).setCell (.inl (by simp)) _) ?_
  simp only [List.getElem_toArray, List.getElem_cons_zero, List.getElem_cons_succ, Act.put, List.setIfInBounds_toArray, List.set_cons_zero, List.set_cons_succ]
  refine region_end (by kernel_rfl) ?_
  go_wp2_with fail
  (with_reducible apply pst_set (k := 4) (g := w.heap.size + 1))
  case hf => rfl
  case hp => rfl
  case hB => exact HRd.out
  case hb => exact HBd.out
  case hg => omega
  rfl
set_option maxRecDepth 100000 in
set_option maxHeartbeats 3200000 in
theorem pstp_10 (N A' P : ByteArray) (t : HS) (c : UInt8) (w : World)
    (hc : ∀ W, Calls Tryz.prog 118 #[.agg #[.int .i64 10, .string N, .string A', .string P], .int .u8 c.toNat, .int .u8 39, .agg #[.int .i64 1, .string N, .string ⟨#[]⟩, .string ⟨#[]⟩]] W (SvV (.agg #[.int .i64 (t.c : Nat), .string (ofL t.n), .string (ofL t.a), .string (ofL t.p)]) W)) :
    Calls Tryz.prog 105 #[stV 10 N A' P, .int .u8 c.toNat] w (SvV t.val w) := by
  unfold stV
  have HC := Lib.hid hc
  clear hc
  have HTG : Hid (∀ W, Calls Tryz.prog 121 #[.agg #[.int .i64 10, .string N, .string A', .string P]] W (SvV (.agg #[.int .i64 1, .string N, .string ⟨#[]⟩, .string ⟨#[]⟩]) W)) := Lib.hid (fun W => ptag_c 10 N A' P W)
  have HB2 := Lib.hid ((Bel.alloc w (.cells #[.int .i64 10, .string N, .string A', .string P] 74)).trans (Bel.alloc (w.alloc (.cells #[.int .i64 10, .string N, .string A', .string P] 74)) (.cells #[.int .i64 0, .string ⟨#[]⟩, .string ⟨#[]⟩, .string ⟨#[]⟩] 74)))
  have HR2 := Lib.hid (blk_at1h w (.cells #[.int .i64 10, .string N, .string A', .string P] 74) 74 [.int .i64 0, .string ⟨#[]⟩, .string ⟨#[]⟩, .string ⟨#[]⟩])
  have HX2 := Lib.hid ((Blk.new w 74 [.int .i64 10, .string N, .string A', .string P]).alloc (.cells #[.int .i64 0, .string ⟨#[]⟩, .string ⟨#[]⟩, .string ⟨#[]⟩] 74))
  go_enter Tryz.func105, Tryz.ntmps105
  go_wp2_with fail
  refine region_begin (T := [w.heap.size + 1]) (by kernel_rfl) ?_
  have HBd := Lib.hid (HB2.out.trans (Bel.drew _))
  have HRd := Lib.hid HR2.out.drew
  have HXd := Lib.hid HX2.out.drew
  generalize ((w.alloc (.cells #[.int .i64 10, .string N, .string A', .string P] 74)).alloc (.cells #[.int .i64 0, .string ⟨#[]⟩, .string ⟨#[]⟩, .string ⟨#[]⟩] 74)).drew = Wd at HBd HRd HXd ⊢
  have p0 : ∀ X : Later [w.heap.size + 1] Wd, X.w.cell? ⟨w.heap.size, 0, none⟩ = some (.int .i64 10) := fun X => (HXd.out.only X.h (by simp)).cell 0
  have p1 : ∀ X : Later [w.heap.size + 1] Wd, X.w.cell? ⟨w.heap.size, 1, none⟩ = some (.string N) := fun X => (HXd.out.only X.h (by simp)).cell 1
  have p2 : ∀ X : Later [w.heap.size + 1] Wd, X.w.cell? ⟨w.heap.size, 2, none⟩ = some (.string A') := fun X => (HXd.out.only X.h (by simp)).cell 2
  have p3 : ∀ X : Later [w.heap.size + 1] Wd, X.w.cell? ⟨w.heap.size, 3, none⟩ = some (.string P) := fun X => (HXd.out.only X.h (by simp)).cell 3
  refine region_seg [true, true, true] 3 (by kernel_rfl) (by kernel_rfl) (by kernel_rfl) rfl (fun _ _ d _ _ h => by cases d <;> exact h) ?_
  repeat (first | with_reducible refine wpMask_pass ?_ | (refine wpMask_want (by rfl) (fun K hK => ?_); go_big_quiet_op; refine hK _ ?_; clear hK K))
  with_reducible refine wpMask_nil ?_
  clear p0 p1 p2 p3
  refine region_call 3 (by kernel_rfl) rfl (by rfl) (by go_simp; exact ⟨rfl, rfl⟩) ?_
  (with_reducible refine (HTG.out _).mono ?_); rintro e w2 ⟨rfl, hb⟩; refine ⟨_, rfl, (Only.refl [w.heap.size + 1] _).join (bel_only hb) (by simp), ?_⟩
  replace HBd := Lib.hid (HBd.out.trans hb)
  replace HRd := Lib.hid (HRd.out.belh hb)
  clear hb
  simp only [List.getElem_toArray, List.getElem_cons_zero, List.getElem_cons_succ, Act.put, List.setIfInBounds_toArray, List.set_cons_zero, List.set_cons_succ]
  refine region_call 4 (by kernel_rfl) rfl (by rfl) (by go_simp; exact ⟨rfl, rfl⟩) ?_
  (with_reducible refine (HC.out _).mono ?_); rintro e w3 ⟨rfl, hb⟩; refine ⟨_, rfl, (Only.refl [w.heap.size + 1] _).join (bel_only hb) (by simp), ?_⟩
  replace HBd := Lib.hid (HBd.out.trans hb)
  replace HRd := Lib.hid (HRd.out.belh hb)
  clear hb
  simp only [List.getElem_toArray, List.getElem_cons_zero, List.getElem_cons_succ, Act.put, List.setIfInBounds_toArray, List.set_cons_zero, List.set_cons_succ]
  obtain ⟨r0, r1, r2, r3⟩ := cells4 HRd.out
  obtain ⟨v0, v1, v2, v3⟩ := frees4 HRd.out
  refine region_store 5 (w1 := ((((w3.setCell ⟨w.heap.size + 1, 0, none⟩ (.int .i64 (t.c : Nat))).setCell ⟨w.heap.size + 1, 1, none⟩ (.string (ofL t.n))).setCell ⟨w.heap.size + 1, 2, none⟩ (.string (ofL t.a))).setCell ⟨w.heap.size + 1, 3, none⟩ (.string (ofL t.p)))) (by kernel_rfl) rfl (by rfl) (by go_simp) (((((Only.refl [w.heap.size + 1] _).setCell (.inl (by simp)) _).setCell (.inl (by simp)) _).setCell (.inl (by simp)) _).setCell (.inl (by simp)) _) ?_
  simp only [List.getElem_toArray, List.getElem_cons_zero, List.getElem_cons_succ, Act.put, List.setIfInBounds_toArray, List.set_cons_zero, List.set_cons_succ]
  refine region_end (by kernel_rfl) ?_
  go_wp2_with fail
  (with_reducible apply pst_set (k := 4) (g := w.heap.size + 1))
  case hf => rfl
  case hp => rfl
  case hB => exact HRd.out
  case hb => exact HBd.out
  case hg => omega
  rfl
set_option maxRecDepth 100000 in
set_option maxHeartbeats 3200000 in
theorem pstp_11 (N A' P : ByteArray) (t : HS) (c : UInt8) (w : World)
    (hc : ∀ W, Calls Tryz.prog 118 #[.agg #[.int .i64 11, .string N, .string A', .string P], .int .u8 c.toNat, .int .u8 34, .agg #[.int .i64 1, .string N, .string ⟨#[]⟩, .string ⟨#[]⟩]] W (SvV (.agg #[.int .i64 (t.c : Nat), .string (ofL t.n), .string (ofL t.a), .string (ofL t.p)]) W)) :
    Calls Tryz.prog 105 #[stV 11 N A' P, .int .u8 c.toNat] w (SvV t.val w) := by
  unfold stV
  have HC := Lib.hid hc
  clear hc
  have HTG : Hid (∀ W, Calls Tryz.prog 121 #[.agg #[.int .i64 11, .string N, .string A', .string P]] W (SvV (.agg #[.int .i64 1, .string N, .string ⟨#[]⟩, .string ⟨#[]⟩]) W)) := Lib.hid (fun W => ptag_c 11 N A' P W)
  have HB2 := Lib.hid ((Bel.alloc w (.cells #[.int .i64 11, .string N, .string A', .string P] 74)).trans (Bel.alloc (w.alloc (.cells #[.int .i64 11, .string N, .string A', .string P] 74)) (.cells #[.int .i64 0, .string ⟨#[]⟩, .string ⟨#[]⟩, .string ⟨#[]⟩] 74)))
  have HR2 := Lib.hid (blk_at1h w (.cells #[.int .i64 11, .string N, .string A', .string P] 74) 74 [.int .i64 0, .string ⟨#[]⟩, .string ⟨#[]⟩, .string ⟨#[]⟩])
  have HX2 := Lib.hid ((Blk.new w 74 [.int .i64 11, .string N, .string A', .string P]).alloc (.cells #[.int .i64 0, .string ⟨#[]⟩, .string ⟨#[]⟩, .string ⟨#[]⟩] 74))
  go_enter Tryz.func105, Tryz.ntmps105
  go_wp2_with fail
  refine region_begin (T := [w.heap.size + 1]) (by kernel_rfl) ?_
  have HBd := Lib.hid (HB2.out.trans (Bel.drew _))
  have HRd := Lib.hid HR2.out.drew
  have HXd := Lib.hid HX2.out.drew
  generalize ((w.alloc (.cells #[.int .i64 11, .string N, .string A', .string P] 74)).alloc (.cells #[.int .i64 0, .string ⟨#[]⟩, .string ⟨#[]⟩, .string ⟨#[]⟩] 74)).drew = Wd at HBd HRd HXd ⊢
  have p0 : ∀ X : Later [w.heap.size + 1] Wd, X.w.cell? ⟨w.heap.size, 0, none⟩ = some (.int .i64 11) := fun X => (HXd.out.only X.h (by simp)).cell 0
  have p1 : ∀ X : Later [w.heap.size + 1] Wd, X.w.cell? ⟨w.heap.size, 1, none⟩ = some (.string N) := fun X => (HXd.out.only X.h (by simp)).cell 1
  have p2 : ∀ X : Later [w.heap.size + 1] Wd, X.w.cell? ⟨w.heap.size, 2, none⟩ = some (.string A') := fun X => (HXd.out.only X.h (by simp)).cell 2
  have p3 : ∀ X : Later [w.heap.size + 1] Wd, X.w.cell? ⟨w.heap.size, 3, none⟩ = some (.string P) := fun X => (HXd.out.only X.h (by simp)).cell 3
  refine region_seg [true, true, true] 3 (by kernel_rfl) (by kernel_rfl) (by kernel_rfl) rfl (fun _ _ d _ _ h => by cases d <;> exact h) ?_
  repeat (first | with_reducible refine wpMask_pass ?_ | (refine wpMask_want (by rfl) (fun K hK => ?_); go_big_quiet_op; refine hK _ ?_; clear hK K))
  with_reducible refine wpMask_nil ?_
  clear p0 p1 p2 p3
  refine region_call 3 (by kernel_rfl) rfl (by rfl) (by go_simp; exact ⟨rfl, rfl⟩) ?_
  (with_reducible refine (HTG.out _).mono ?_); rintro e w2 ⟨rfl, hb⟩; refine ⟨_, rfl, (Only.refl [w.heap.size + 1] _).join (bel_only hb) (by simp), ?_⟩
  replace HBd := Lib.hid (HBd.out.trans hb)
  replace HRd := Lib.hid (HRd.out.belh hb)
  clear hb
  simp only [List.getElem_toArray, List.getElem_cons_zero, List.getElem_cons_succ, Act.put, List.setIfInBounds_toArray, List.set_cons_zero, List.set_cons_succ]
  refine region_call 4 (by kernel_rfl) rfl (by rfl) (by go_simp; exact ⟨rfl, rfl⟩) ?_
  (with_reducible refine (HC.out _).mono ?_); rintro e w3 ⟨rfl, hb⟩; refine ⟨_, rfl, (Only.refl [w.heap.size + 1] _).join (bel_only hb) (by simp), ?_⟩
  replace HBd := Lib.hid (HBd.out.trans hb)
  replace HRd := Lib.hid (HRd.out.belh hb)
  clear hb
  simp only [List.getElem_toArray, List.getElem_cons_zero, List.getElem_cons_succ, Act.put, List.setIfInBounds_toArray, List.set_cons_zero, List.set_cons_succ]
  obtain ⟨r0, r1, r2, r3⟩ := cells4 HRd.out
  obtain ⟨v0, v1, v2, v3⟩ := frees4 HRd.out
  refine region_store 5 (w1 := ((((w3.setCell ⟨w.heap.size + 1, 0, none⟩ (.int .i64 (t.c : Nat))).setCell ⟨w.heap.size + 1, 1, none⟩ (.string (ofL t.n))).setCell ⟨w.heap.size + 1, 2, none⟩ (.string (ofL t.a))).setCell ⟨w.heap.size + 1, 3, none⟩ (.string (ofL t.p)))) (by kernel_rfl) rfl (by rfl) (by go_simp) (((((Only.refl [w.heap.size + 1] _).setCell (.inl (by simp)) _).setCell (.inl (by simp)) _).setCell (.inl (by simp)) _).setCell (.inl (by simp)) _) ?_
  simp only [List.getElem_toArray, List.getElem_cons_zero, List.getElem_cons_succ, Act.put, List.setIfInBounds_toArray, List.set_cons_zero, List.set_cons_succ]
  refine region_end (by kernel_rfl) ?_
  go_wp2_with fail
  (with_reducible apply pst_set (k := 4) (g := w.heap.size + 1))
  case hf => rfl
  case hp => rfl
  case hB => exact HRd.out
  case hb => exact HBd.out
  case hg => omega
  rfl
set_option maxRecDepth 100000 in
set_option maxHeartbeats 3200000 in
theorem pstp_12 (N A' P : ByteArray) (t : HS) (c : UInt8) (w : World)
    (hc : ∀ W, Calls Tryz.prog 118 #[.agg #[.int .i64 12, .string N, .string A', .string P], .int .u8 c.toNat, .int .u8 39, .agg #[.int .i64 1, .string N, .string ⟨#[]⟩, .string ⟨#[]⟩]] W (SvV (.agg #[.int .i64 (t.c : Nat), .string (ofL t.n), .string (ofL t.a), .string (ofL t.p)]) W)) :
    Calls Tryz.prog 105 #[stV 12 N A' P, .int .u8 c.toNat] w (SvV t.val w) := by
  unfold stV
  have HC := Lib.hid hc
  clear hc
  have HTG : Hid (∀ W, Calls Tryz.prog 121 #[.agg #[.int .i64 12, .string N, .string A', .string P]] W (SvV (.agg #[.int .i64 1, .string N, .string ⟨#[]⟩, .string ⟨#[]⟩]) W)) := Lib.hid (fun W => ptag_c 12 N A' P W)
  have HB2 := Lib.hid ((Bel.alloc w (.cells #[.int .i64 12, .string N, .string A', .string P] 74)).trans (Bel.alloc (w.alloc (.cells #[.int .i64 12, .string N, .string A', .string P] 74)) (.cells #[.int .i64 0, .string ⟨#[]⟩, .string ⟨#[]⟩, .string ⟨#[]⟩] 74)))
  have HR2 := Lib.hid (blk_at1h w (.cells #[.int .i64 12, .string N, .string A', .string P] 74) 74 [.int .i64 0, .string ⟨#[]⟩, .string ⟨#[]⟩, .string ⟨#[]⟩])
  have HX2 := Lib.hid ((Blk.new w 74 [.int .i64 12, .string N, .string A', .string P]).alloc (.cells #[.int .i64 0, .string ⟨#[]⟩, .string ⟨#[]⟩, .string ⟨#[]⟩] 74))
  go_enter Tryz.func105, Tryz.ntmps105
  go_wp2_with fail
  refine region_begin (T := [w.heap.size + 1]) (by kernel_rfl) ?_
  have HBd := Lib.hid (HB2.out.trans (Bel.drew _))
  have HRd := Lib.hid HR2.out.drew
  have HXd := Lib.hid HX2.out.drew
  generalize ((w.alloc (.cells #[.int .i64 12, .string N, .string A', .string P] 74)).alloc (.cells #[.int .i64 0, .string ⟨#[]⟩, .string ⟨#[]⟩, .string ⟨#[]⟩] 74)).drew = Wd at HBd HRd HXd ⊢
  have p0 : ∀ X : Later [w.heap.size + 1] Wd, X.w.cell? ⟨w.heap.size, 0, none⟩ = some (.int .i64 12) := fun X => (HXd.out.only X.h (by simp)).cell 0
  have p1 : ∀ X : Later [w.heap.size + 1] Wd, X.w.cell? ⟨w.heap.size, 1, none⟩ = some (.string N) := fun X => (HXd.out.only X.h (by simp)).cell 1
  have p2 : ∀ X : Later [w.heap.size + 1] Wd, X.w.cell? ⟨w.heap.size, 2, none⟩ = some (.string A') := fun X => (HXd.out.only X.h (by simp)).cell 2
  have p3 : ∀ X : Later [w.heap.size + 1] Wd, X.w.cell? ⟨w.heap.size, 3, none⟩ = some (.string P) := fun X => (HXd.out.only X.h (by simp)).cell 3
  refine region_seg [true, true, true] 3 (by kernel_rfl) (by kernel_rfl) (by kernel_rfl) rfl (fun _ _ d _ _ h => by cases d <;> exact h) ?_
  repeat (first | with_reducible refine wpMask_pass ?_ | (refine wpMask_want (by rfl) (fun K hK => ?_); go_big_quiet_op; refine hK _ ?_; clear hK K))
  with_reducible refine wpMask_nil ?_
  clear p0 p1 p2 p3
  refine region_call 3 (by kernel_rfl) rfl (by rfl) (by go_simp; exact ⟨rfl, rfl⟩) ?_
  (with_reducible refine (HTG.out _).mono ?_); rintro e w2 ⟨rfl, hb⟩; refine ⟨_, rfl, (Only.refl [w.heap.size + 1] _).join (bel_only hb) (by simp), ?_⟩
  replace HBd := Lib.hid (HBd.out.trans hb)
  replace HRd := Lib.hid (HRd.out.belh hb)
  clear hb
  simp only [List.getElem_toArray, List.getElem_cons_zero, List.getElem_cons_succ, Act.put, List.setIfInBounds_toArray, List.set_cons_zero, List.set_cons_succ]
  refine region_call 4 (by kernel_rfl) rfl (by rfl) (by go_simp; exact ⟨rfl, rfl⟩) ?_
  (with_reducible refine (HC.out _).mono ?_); rintro e w3 ⟨rfl, hb⟩; refine ⟨_, rfl, (Only.refl [w.heap.size + 1] _).join (bel_only hb) (by simp), ?_⟩
  replace HBd := Lib.hid (HBd.out.trans hb)
  replace HRd := Lib.hid (HRd.out.belh hb)
  clear hb
  simp only [List.getElem_toArray, List.getElem_cons_zero, List.getElem_cons_succ, Act.put, List.setIfInBounds_toArray, List.set_cons_zero, List.set_cons_succ]
  obtain ⟨r0, r1, r2, r3⟩ := cells4 HRd.out
  obtain ⟨v0, v1, v2, v3⟩ := frees4 HRd.out
  refine region_store 5 (w1 := ((((w3.setCell ⟨w.heap.size + 1, 0, none⟩ (.int .i64 (t.c : Nat))).setCell ⟨w.heap.size + 1, 1, none⟩ (.string (ofL t.n))).setCell ⟨w.heap.size + 1, 2, none⟩ (.string (ofL t.a))).setCell ⟨w.heap.size + 1, 3, none⟩ (.string (ofL t.p)))) (by kernel_rfl) rfl (by rfl) (by go_simp) (((((Only.refl [w.heap.size + 1] _).setCell (.inl (by simp)) _).setCell (.inl (by simp)) _).setCell (.inl (by simp)) _).setCell (.inl (by simp)) _) ?_
  simp only [List.getElem_toArray, List.getElem_cons_zero, List.getElem_cons_succ, Act.put, List.setIfInBounds_toArray, List.set_cons_zero, List.set_cons_succ]
  refine region_end (by kernel_rfl) ?_
  go_wp2_with fail
  (with_reducible apply pst_set (k := 4) (g := w.heap.size + 1))
  case hf => rfl
  case hp => rfl
  case hB => exact HRd.out
  case hb => exact HBd.out
  case hg => omega
  rfl
theorem stay_eq (k j : Nat) (n a p m b q : List UInt8) (c d : UInt8) (W : World) : Calls Tryz.prog 118 #[stV (k : Nat) (ofL n) (ofL a) (ofL p), .int .u8 c.toNat, .int .u8 d.toNat, stV (j : Nat) (ofL m) (ofL b) (ofL q)] W (SvP (if c = d then ⟨j, m, b, q⟩ else ⟨k, n, a, p⟩) W) := by
  have h := pstay_c k j (ofL n) (ofL a) (ofL p) (ofL m) (ofL b) (ofL q) c d W
  rw [show (if c = d then stV (j : Nat) (ofL m) (ofL b) (ofL q) else stV (k : Nat) (ofL n) (ofL a) (ofL p)) = HS.val (if c = d then ⟨j, m, b, q⟩ else ⟨k, n, a, p⟩) from by split <;> rfl] at h
  exact h
/-- A step of the program. -/
theorem pstep_c (s : HS) (hi : Inv s) (c : UInt8) (w : World) : Calls Tryz.prog 105 #[s.val, .int .u8 c.toNat] w (SvP (stepS s c) w) := by
  obtain ⟨k, n, a, p⟩ := s
  have h21 : k ≤ 21 := hi.c
  have hn : n.length ≤ 100000 := Nat.le_trans hi.n.1 (by omega)
  have ha : a.length ≤ 100000 := Nat.le_trans hi.a.1 (by omega)
  unfold stepS
  show Calls _ _ #[stV (k : Nat) (ofL n) (ofL a) (ofL p), _] _ _
  by_cases g0 : k = 0
  · subst g0
    have e1 : n = [] := hi.n0 (.inl rfl)
    have e2 : a = [] := hi.a0 (by show (0:Nat) ≠ 3 ∧ (0:Nat) ≠ 4 ∧ (0:Nat) ≠ 5; omega)
    subst e1 e2
    exact pstp_0 _ _ _ _ c w fun W => ptext_c p (hi.p0 rfl) c W
  rw [if_neg g0]
  by_cases g12 : k ≤ 12
  · rw [if_pos (show (HS.mk k n a p).c ≤ 12 from g12)]
    have e1 : p = [] := hi.p1 ⟨by show 1 ≤ k; omega, g12⟩
    subst e1
    by_cases g6 : k ≤ 6
    · have hk : k = 1 ∨ k = 2 ∨ k = 3 ∨ k = 4 ∨ k = 5 ∨ k = 6 := by omega
      have h := fun W => ptagS_c k (by omega) g6 n a hn ha c W
      rcases hk with rfl | rfl | rfl | rfl | rfl | rfl
      · exact pstp_1 _ _ _ _ c w h
      · exact pstp_2 _ _ _ _ c w h
      · exact pstp_3 _ _ _ _ c w h
      · exact pstp_4 _ _ _ _ c w h
      · exact pstp_5 _ _ _ _ c w h
      · exact pstp_6 _ _ _ _ c w h
    · have hk : k = 7 ∨ k = 8 ∨ k = 9 ∨ k = 10 ∨ k = 11 ∨ k = 12 := by omega
      rcases hk with rfl | rfl | rfl | rfl | rfl | rfl
      · rw [show tagS ⟨7, n, a, []⟩ c = if c = 34 then ⟨1, n, [], []⟩ else ⟨7, n, a, []⟩ from by simp [tagS]]
        exact pstp_7 _ _ _ _ c w fun W => stay_eq 7 1 n a [] n [] [] c 34 W
      · rw [show tagS ⟨8, n, a, []⟩ c = if c = 39 then ⟨1, n, [], []⟩ else ⟨8, n, a, []⟩ from by simp [tagS]]
        exact pstp_8 _ _ _ _ c w fun W => stay_eq 8 1 n a [] n [] [] c 39 W
      · rw [show tagS ⟨9, n, a, []⟩ c = if c = 34 then ⟨1, n, [], []⟩ else ⟨9, n, a, []⟩ from by simp [tagS]]
        exact pstp_9 _ _ _ _ c w fun W => stay_eq 9 1 n a [] n [] [] c 34 W
      · rw [show tagS ⟨10, n, a, []⟩ c = if c = 39 then ⟨1, n, [], []⟩ else ⟨10, n, a, []⟩ from by simp [tagS]]
        exact pstp_10 _ _ _ _ c w fun W => stay_eq 10 1 n a [] n [] [] c 39 W
      · rw [show tagS ⟨11, n, a, []⟩ c = if c = 34 then ⟨1, n, [], []⟩ else ⟨11, n, a, []⟩ from by simp [tagS]]
        exact pstp_11 _ _ _ _ c w fun W => stay_eq 11 1 n a [] n [] [] c 34 W
      · rw [show tagS ⟨12, n, a, []⟩ c = if c = 39 then ⟨1, n, [], []⟩ else ⟨12, n, a, []⟩ from by simp [tagS]]
        exact pstp_12 _ _ _ _ c w fun W => stay_eq 12 1 n a [] n [] [] c 39 W
  rw [if_neg (show ¬ (HS.mk k n a p).c ≤ 12 from g12)]
  by_cases g13 : k = 13
  · subst g13
    exact pstp_13 _ _ _ _ c w fun W => pcomment_c _ _ _ p c W
  rw [if_neg g13]
  by_cases g15 : k ≤ 15
  · rw [if_pos (show (HS.mk k n a p).c ≤ 15 from g15)]
    have hk : k = 14 ∨ k = 15 := by omega
    rcases hk with rfl | rfl
    · exact pstp_14 _ _ _ _ c w fun W => stay_eq 14 0 n a p [] [] [] c 62 W
    · exact pstp_15 _ _ _ _ c w fun W => stay_eq 15 0 n a p [] [] [] c 62 W
  rw [if_neg (show ¬ (HS.mk k n a p).c ≤ 15 from g15)]
  have e1 : n = [] := hi.n0 (.inr (by show 13 ≤ k; omega))
  have e2 : a = [] := hi.a0 (by show k ≠ 3 ∧ k ≠ 4 ∧ k ≠ 5; omega)
  subst e1 e2
  have hpt : PtOk k p := hi.p16 (by show 16 ≤ k; omega)
  have h := fun W => pcontent_c k (by omega) h21 p hpt c W
  have hk : k = 16 ∨ k = 17 ∨ k = 18 ∨ k = 19 ∨ k = 20 ∨ k = 21 := by omega
  rcases hk with rfl | rfl | rfl | rfl | rfl | rfl
  · exact pstp_16 _ _ _ _ c w h
  · exact pstp_17 _ _ _ _ c w h
  · exact pstp_18 _ _ _ _ c w h
  · exact pstp_19 _ _ _ _ c w h
  · exact pstp_20 _ _ _ _ c w h
  · exact pstp_21 _ _ _ _ c w h
end Go.Proofs.YtpcapmdfjmpdiaaGreatDoor
