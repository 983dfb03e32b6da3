/-
  Contracts: the program of layer 15: contents, tags and Step.
-/
import Derived.Test.YtpcapmdfjmpdiaaGreatDoorZPu15
import Derived.Test.YtpcapmdfjmpdiaaGreatDoorZPv15
namespace Go.Proofs.YtpcapmdfjmpdiaaGreatDoor
open Go.RowKit Go.BigFrame
set_option linter.unusedVariables false
set_option linter.unusedSimpArgs false
set_option maxRecDepth 100000

set_option maxRecDepth 100000 in
set_option maxHeartbeats 3200000 in
theorem pcont16_yes (n a p : ByteArray) (t : HS) (c : UInt8) (w : World)
    (hc : ∀ W, Calls Tryz.prog 140 #[.agg #[.int .i64 16, .string n, .string a, .string p], .int .u8 c.toNat, .string ⟨#[60, 47, 115, 99, 114, 105, 112, 116]⟩] W (SvB (.agg #[.int .i64 (t.c : Nat), .string (ofL t.n), .string (ofL t.a), .string (ofL t.p)]) true W)) :
    Calls Tryz.prog 122 #[.agg #[.int .i64 16, .string n, .string a, .string p], .int .u8 c.toNat] w (SvV t.val w) := by
  have HC := Lib.hid hc
  clear hc
  have HB2 := Lib.hid ((Bel.alloc w (.cells #[.int .i64 16, .string n, .string a, .string p] 74)).trans (Bel.alloc (w.alloc (.cells #[.int .i64 16, .string n, .string a, .string p] 74)) (.cells #[.int .i64 0, .string ⟨#[]⟩, .string ⟨#[]⟩, .string ⟨#[]⟩] 74)))
  have HR2 := Lib.hid (blk_at1h w (.cells #[.int .i64 16, .string n, .string a, .string p] 74) 74 [.int .i64 0, .string ⟨#[]⟩, .string ⟨#[]⟩, .string ⟨#[]⟩])
  have HX2 := Lib.hid ((Blk.new w 74 [.int .i64 16, .string n, .string a, .string p]).alloc (.cells #[.int .i64 0, .string ⟨#[]⟩, .string ⟨#[]⟩, .string ⟨#[]⟩] 74))
  have HE : Hid (∀ W, Calls Tryz.prog 139 #[.int .i64 16] W (SvV (.agg #[.string ⟨#[60, 47, 115, 99, 114, 105, 112, 116]⟩, .int .i64 16, .int .i64 17, .int .i64 18]) W)) := Lib.hid (fun W => pelem16_c 16 (by decide) W)
  go_enter Tryz.func122, Tryz.ntmps122
  go_wp2_with (first
    | (go_at_call 139; ((with_reducible refine (HE.out _).mono ?_); rintro e w1 ⟨rfl, hb⟩; have HB1 := Lib.hid ((HB2.out.trans hb).trans (Bel.alloc w1 (.cells #[.string ⟨#[60, 47, 115, 99, 114, 105, 112, 116]⟩, .int .i64 16, .int .i64 17, .int .i64 18] 197))); have HR1 := Lib.hid ((HR2.out.belh hb).alloc (.cells #[.string ⟨#[60, 47, 115, 99, 114, 105, 112, 116]⟩, .int .i64 16, .int .i64 17, .int .i64 18] 197)); have HX1 := Lib.hid ((HX2.out.belh hb).alloc (.cells #[.string ⟨#[60, 47, 115, 99, 114, 105, 112, 116]⟩, .int .i64 16, .int .i64 17, .int .i64 18] 197)); have HK1 := Lib.hid (Blk.new w1 197 [.string ⟨#[60, 47, 115, 99, 114, 105, 112, 116]⟩, .int .i64 16, .int .i64 17, .int .i64 18]); clear hb; obtain ⟨x0, x1, x2, x3⟩ := cells4 HX1.out; obtain ⟨k0, k1, k2, k3⟩ := cells4 HK1.out))
    | (go_at_call 140; ((with_reducible refine (HC.out _).mono ?_); rintro e w2 ⟨rfl, hb⟩; have HB3 := Lib.hid ((HB1.out.trans hb).trans (Bel.alloc w2 (.cells #[.int .i64 (t.c : Nat), .string (ofL t.n), .string (ofL t.a), .string (ofL t.p)] 74))); have HR3 := Lib.hid ((HR1.out.belh hb).alloc (.cells #[.int .i64 (t.c : Nat), .string (ofL t.n), .string (ofL t.a), .string (ofL t.p)] 74)); have HX3 := Lib.hid ((HX1.out.belh hb).alloc (.cells #[.int .i64 (t.c : Nat), .string (ofL t.n), .string (ofL t.a), .string (ofL t.p)] 74)); have HK3 := Lib.hid ((HK1.out.belh hb).alloc (.cells #[.int .i64 (t.c : Nat), .string (ofL t.n), .string (ofL t.a), .string (ofL t.p)] 74)); clear hb x0 x1 x2 x3 k0 k1 k2 k3; obtain ⟨x0, x1, x2, x3⟩ := cells4 HX3.out; obtain ⟨k0, k1, k2, k3⟩ := cells4 HK3.out; obtain ⟨r0, r1, r2, r3⟩ := cells4 HR3.out; obtain ⟨v0, v1, v2, v3⟩ := frees4 HR3.out)))
  all_goals first
    | ((with_reducible apply pst_set (k := 4) (g := w.heap.size + 1)); (case hf => rfl); (case hp => rfl); (case hB => exact HR3.out); (case hb => exact HB3.out); (case hg => omega); rfl)
    | trace_state
set_option maxRecDepth 100000 in
set_option maxHeartbeats 3200000 in
theorem pcont16_no (n a p : ByteArray) (t : HS) (c : UInt8) (w : World)
    (hc : ∀ W, Calls Tryz.prog 140 #[.agg #[.int .i64 16, .string n, .string a, .string p], .int .u8 c.toNat, .string ⟨#[60, 47, 115, 99, 114, 105, 112, 116]⟩] W (SvB (.agg #[.int .i64 0, .string ⟨#[]⟩, .string ⟨#[]⟩, .string ⟨#[]⟩]) false W))
    (hf : ∀ W, Calls Tryz.prog 142 #[.int .u8 c.toNat, .agg #[.string ⟨#[60, 47, 115, 99, 114, 105, 112, 116]⟩, .int .i64 16, .int .i64 17, .int .i64 18]] W (SvV (.agg #[.int .i64 (t.c : Nat), .string (ofL t.n), .string (ofL t.a), .string (ofL t.p)]) W)) :
    Calls Tryz.prog 122 #[.agg #[.int .i64 16, .string n, .string a, .string p], .int .u8 c.toNat] w (SvV t.val w) := by
  have HC := Lib.hid hc
  have HF := Lib.hid hf
  clear hc hf
  have HB2 := Lib.hid ((Bel.alloc w (.cells #[.int .i64 16, .string n, .string a, .string p] 74)).trans (Bel.alloc (w.alloc (.cells #[.int .i64 16, .string n, .string a, .string p] 74)) (.cells #[.int .i64 0, .string ⟨#[]⟩, .string ⟨#[]⟩, .string ⟨#[]⟩] 74)))
  have HR2 := Lib.hid (blk_at1h w (.cells #[.int .i64 16, .string n, .string a, .string p] 74) 74 [.int .i64 0, .string ⟨#[]⟩, .string ⟨#[]⟩, .string ⟨#[]⟩])
  have HX2 := Lib.hid ((Blk.new w 74 [.int .i64 16, .string n, .string a, .string p]).alloc (.cells #[.int .i64 0, .string ⟨#[]⟩, .string ⟨#[]⟩, .string ⟨#[]⟩] 74))
  have HE : Hid (∀ W, Calls Tryz.prog 139 #[.int .i64 16] W (SvV (.agg #[.string ⟨#[60, 47, 115, 99, 114, 105, 112, 116]⟩, .int .i64 16, .int .i64 17, .int .i64 18]) W)) := Lib.hid (fun W => pelem16_c 16 (by decide) W)
  go_enter Tryz.func122, Tryz.ntmps122
  go_wp2_with (first
    | (go_at_call 139; ((with_reducible refine (HE.out _).mono ?_); rintro e w1 ⟨rfl, hb⟩; have HB1 := Lib.hid ((HB2.out.trans hb).trans (Bel.alloc w1 (.cells #[.string ⟨#[60, 47, 115, 99, 114, 105, 112, 116]⟩, .int .i64 16, .int .i64 17, .int .i64 18] 197))); have HR1 := Lib.hid ((HR2.out.belh hb).alloc (.cells #[.string ⟨#[60, 47, 115, 99, 114, 105, 112, 116]⟩, .int .i64 16, .int .i64 17, .int .i64 18] 197)); have HX1 := Lib.hid ((HX2.out.belh hb).alloc (.cells #[.string ⟨#[60, 47, 115, 99, 114, 105, 112, 116]⟩, .int .i64 16, .int .i64 17, .int .i64 18] 197)); have HK1 := Lib.hid (Blk.new w1 197 [.string ⟨#[60, 47, 115, 99, 114, 105, 112, 116]⟩, .int .i64 16, .int .i64 17, .int .i64 18]); clear hb; obtain ⟨x0, x1, x2, x3⟩ := cells4 HX1.out; obtain ⟨k0, k1, k2, k3⟩ := cells4 HK1.out))
    | (go_at_call 140; ((with_reducible refine (HC.out _).mono ?_); rintro e w2 ⟨rfl, hb⟩; have HB3 := Lib.hid ((HB1.out.trans hb).trans (Bel.alloc w2 (.cells #[.int .i64 0, .string ⟨#[]⟩, .string ⟨#[]⟩, .string ⟨#[]⟩] 74))); have HR3 := Lib.hid ((HR1.out.belh hb).alloc (.cells #[.int .i64 0, .string ⟨#[]⟩, .string ⟨#[]⟩, .string ⟨#[]⟩] 74)); have HX3 := Lib.hid ((HX1.out.belh hb).alloc (.cells #[.int .i64 0, .string ⟨#[]⟩, .string ⟨#[]⟩, .string ⟨#[]⟩] 74)); have HK3 := Lib.hid ((HK1.out.belh hb).alloc (.cells #[.int .i64 0, .string ⟨#[]⟩, .string ⟨#[]⟩, .string ⟨#[]⟩] 74)); clear hb x0 x1 x2 x3 k0 k1 k2 k3; obtain ⟨x0, x1, x2, x3⟩ := cells4 HX3.out; obtain ⟨k0, k1, k2, k3⟩ := cells4 HK3.out; obtain ⟨r0, r1, r2, r3⟩ := cells4 HR3.out; obtain ⟨v0, v1, v2, v3⟩ := frees4 HR3.out))
    | (go_at_call 142; ((with_reducible refine (HF.out _).mono ?_); rintro e w3 ⟨rfl, hb⟩; have HB4 := Lib.hid (HB3.out.trans hb); have HR4 := Lib.hid (HR3.out.belh hb); clear hb x0 x1 x2 x3 k0 k1 k2 k3 r0 r1 r2 r3 v0 v1 v2 v3; obtain ⟨r0, r1, r2, r3⟩ := cells4 HR4.out; obtain ⟨v0, v1, v2, v3⟩ := frees4 HR4.out)))
  all_goals first
    | ((with_reducible apply pst_set (k := 4) (g := w.heap.size + 1)); (case hf => rfl); (case hp => rfl); (case hB => exact HR4.out); (case hb => exact HB4.out); (case hg => omega); rfl)
    | trace_state
set_option maxRecDepth 100000 in
set_option maxHeartbeats 3200000 in
theorem pcont17_yes (n a p : ByteArray) (t : HS) (c : UInt8) (w : World)
    (hc : ∀ W, Calls Tryz.prog 140 #[.agg #[.int .i64 17, .string n, .string a, .string p], .int .u8 c.toNat, .string ⟨#[60, 47, 115, 99, 114, 105, 112, 116]⟩] W (SvB (.agg #[.int .i64 (t.c : Nat), .string (ofL t.n), .string (ofL t.a), .string (ofL t.p)]) true W)) :
    Calls Tryz.prog 122 #[.agg #[.int .i64 17, .string n, .string a, .string p], .int .u8 c.toNat] w (SvV t.val w) := by
  have HC := Lib.hid hc
  clear hc
  have HB2 := Lib.hid ((Bel.alloc w (.cells #[.int .i64 17, .string n, .string a, .string p] 74)).trans (Bel.alloc (w.alloc (.cells #[.int .i64 17, .string n, .string a, .string p] 74)) (.cells #[.int .i64 0, .string ⟨#[]⟩, .string ⟨#[]⟩, .string ⟨#[]⟩] 74)))
  have HR2 := Lib.hid (blk_at1h w (.cells #[.int .i64 17, .string n, .string a, .string p] 74) 74 [.int .i64 0, .string ⟨#[]⟩, .string ⟨#[]⟩, .string ⟨#[]⟩])
  have HX2 := Lib.hid ((Blk.new w 74 [.int .i64 17, .string n, .string a, .string p]).alloc (.cells #[.int .i64 0, .string ⟨#[]⟩, .string ⟨#[]⟩, .string ⟨#[]⟩] 74))
  have HE : Hid (∀ W, Calls Tryz.prog 139 #[.int .i64 17] W (SvV (.agg #[.string ⟨#[60, 47, 115, 99, 114, 105, 112, 116]⟩, .int .i64 16, .int .i64 17, .int .i64 18]) W)) := Lib.hid (fun W => pelem16_c 17 (by decide) W)
  go_enter Tryz.func122, Tryz.ntmps122
  go_wp2_with (first
    | (go_at_call 139; ((with_reducible refine (HE.out _).mono ?_); rintro e w1 ⟨rfl, hb⟩; have HB1 := Lib.hid ((HB2.out.trans hb).trans (Bel.alloc w1 (.cells #[.string ⟨#[60, 47, 115, 99, 114, 105, 112, 116]⟩, .int .i64 16, .int .i64 17, .int .i64 18] 197))); have HR1 := Lib.hid ((HR2.out.belh hb).alloc (.cells #[.string ⟨#[60, 47, 115, 99, 114, 105, 112, 116]⟩, .int .i64 16, .int .i64 17, .int .i64 18] 197)); have HX1 := Lib.hid ((HX2.out.belh hb).alloc (.cells #[.string ⟨#[60, 47, 115, 99, 114, 105, 112, 116]⟩, .int .i64 16, .int .i64 17, .int .i64 18] 197)); have HK1 := Lib.hid (Blk.new w1 197 [.string ⟨#[60, 47, 115, 99, 114, 105, 112, 116]⟩, .int .i64 16, .int .i64 17, .int .i64 18]); clear hb; obtain ⟨x0, x1, x2, x3⟩ := cells4 HX1.out; obtain ⟨k0, k1, k2, k3⟩ := cells4 HK1.out))
    | (go_at_call 140; ((with_reducible refine (HC.out _).mono ?_); rintro e w2 ⟨rfl, hb⟩; have HB3 := Lib.hid ((HB1.out.trans hb).trans (Bel.alloc w2 (.cells #[.int .i64 (t.c : Nat), .string (ofL t.n), .string (ofL t.a), .string (ofL t.p)] 74))); have HR3 := Lib.hid ((HR1.out.belh hb).alloc (.cells #[.int .i64 (t.c : Nat), .string (ofL t.n), .string (ofL t.a), .string (ofL t.p)] 74)); have HX3 := Lib.hid ((HX1.out.belh hb).alloc (.cells #[.int .i64 (t.c : Nat), .string (ofL t.n), .string (ofL t.a), .string (ofL t.p)] 74)); have HK3 := Lib.hid ((HK1.out.belh hb).alloc (.cells #[.int .i64 (t.c : Nat), .string (ofL t.n), .string (ofL t.a), .string (ofL t.p)] 74)); clear hb x0 x1 x2 x3 k0 k1 k2 k3; obtain ⟨x0, x1, x2, x3⟩ := cells4 HX3.out; obtain ⟨k0, k1, k2, k3⟩ := cells4 HK3.out; obtain ⟨r0, r1, r2, r3⟩ := cells4 HR3.out; obtain ⟨v0, v1, v2, v3⟩ := frees4 HR3.out)))
  all_goals first
    | ((with_reducible apply pst_set (k := 4) (g := w.heap.size + 1)); (case hf => rfl); (case hp => rfl); (case hB => exact HR3.out); (case hb => exact HB3.out); (case hg => omega); rfl)
    | trace_state
set_option maxRecDepth 100000 in
set_option maxHeartbeats 3200000 in
theorem pcont17_no (n a p : ByteArray) (t : HS) (c : UInt8) (w : World)
    (hc : ∀ W, Calls Tryz.prog 140 #[.agg #[.int .i64 17, .string n, .string a, .string p], .int .u8 c.toNat, .string ⟨#[60, 47, 115, 99, 114, 105, 112, 116]⟩] W (SvB (.agg #[.int .i64 0, .string ⟨#[]⟩, .string ⟨#[]⟩, .string ⟨#[]⟩]) false W))
    (hf : ∀ W, Calls Tryz.prog 141 #[.agg #[.int .i64 17, .string n, .string a, .string p], .int .u8 c.toNat, .int .u8 34, .int .i64 16] W (SvV (.agg #[.int .i64 (t.c : Nat), .string (ofL t.n), .string (ofL t.a), .string (ofL t.p)]) W)) :
    Calls Tryz.prog 122 #[.agg #[.int .i64 17, .string n, .string a, .string p], .int .u8 c.toNat] w (SvV t.val w) := by
  have HC := Lib.hid hc
  have HF := Lib.hid hf
  clear hc hf
  have HB2 := Lib.hid ((Bel.alloc w (.cells #[.int .i64 17, .string n, .string a, .string p] 74)).trans (Bel.alloc (w.alloc (.cells #[.int .i64 17, .string n, .string a, .string p] 74)) (.cells #[.int .i64 0, .string ⟨#[]⟩, .string ⟨#[]⟩, .string ⟨#[]⟩] 74)))
  have HR2 := Lib.hid (blk_at1h w (.cells #[.int .i64 17, .string n, .string a, .string p] 74) 74 [.int .i64 0, .string ⟨#[]⟩, .string ⟨#[]⟩, .string ⟨#[]⟩])
  have HX2 := Lib.hid ((Blk.new w 74 [.int .i64 17, .string n, .string a, .string p]).alloc (.cells #[.int .i64 0, .string ⟨#[]⟩, .string ⟨#[]⟩, .string ⟨#[]⟩] 74))
  have HE : Hid (∀ W, Calls Tryz.prog 139 #[.int .i64 17] W (SvV (.agg #[.string ⟨#[60, 47, 115, 99, 114, 105, 112, 116]⟩, .int .i64 16, .int .i64 17, .int .i64 18]) W)) := Lib.hid (fun W => pelem16_c 17 (by decide) W)
  go_enter Tryz.func122, Tryz.ntmps122
  go_wp2_with (first
    | (go_at_call 139; ((with_reducible refine (HE.out _).mono ?_); rintro e w1 ⟨rfl, hb⟩; have HB1 := Lib.hid ((HB2.out.trans hb).trans (Bel.alloc w1 (.cells #[.string ⟨#[60, 47, 115, 99, 114, 105, 112, 116]⟩, .int .i64 16, .int .i64 17, .int .i64 18] 197))); have HR1 := Lib.hid ((HR2.out.belh hb).alloc (.cells #[.string ⟨#[60, 47, 115, 99, 114, 105, 112, 116]⟩, .int .i64 16, .int .i64 17, .int .i64 18] 197)); have HX1 := Lib.hid ((HX2.out.belh hb).alloc (.cells #[.string ⟨#[60, 47, 115, 99, 114, 105, 112, 116]⟩, .int .i64 16, .int .i64 17, .int .i64 18] 197)); have HK1 := Lib.hid (Blk.new w1 197 [.string ⟨#[60, 47, 115, 99, 114, 105, 112, 116]⟩, .int .i64 16, .int .i64 17, .int .i64 18]); clear hb; obtain ⟨x0, x1, x2, x3⟩ := cells4 HX1.out; obtain ⟨k0, k1, k2, k3⟩ := cells4 HK1.out))
    | (go_at_call 140; ((with_reducible refine (HC.out _).mono ?_); rintro e w2 ⟨rfl, hb⟩; have HB3 := Lib.hid ((HB1.out.trans hb).trans (Bel.alloc w2 (.cells #[.int .i64 0, .string ⟨#[]⟩, .string ⟨#[]⟩, .string ⟨#[]⟩] 74))); have HR3 := Lib.hid ((HR1.out.belh hb).alloc (.cells #[.int .i64 0, .string ⟨#[]⟩, .string ⟨#[]⟩, .string ⟨#[]⟩] 74)); have HX3 := Lib.hid ((HX1.out.belh hb).alloc (.cells #[.int .i64 0, .string ⟨#[]⟩, .string ⟨#[]⟩, .string ⟨#[]⟩] 74)); have HK3 := Lib.hid ((HK1.out.belh hb).alloc (.cells #[.int .i64 0, .string ⟨#[]⟩, .string ⟨#[]⟩, .string ⟨#[]⟩] 74)); clear hb x0 x1 x2 x3 k0 k1 k2 k3; obtain ⟨x0, x1, x2, x3⟩ := cells4 HX3.out; obtain ⟨k0, k1, k2, k3⟩ := cells4 HK3.out; obtain ⟨r0, r1, r2, r3⟩ := cells4 HR3.out; obtain ⟨v0, v1, v2, v3⟩ := frees4 HR3.out))
    | (go_at_call 141; ((with_reducible refine (HF.out _).mono ?_); rintro e w3 ⟨rfl, hb⟩; have HB4 := Lib.hid (HB3.out.trans hb); have HR4 := Lib.hid (HR3.out.belh hb); clear hb x0 x1 x2 x3 k0 k1 k2 k3 r0 r1 r2 r3 v0 v1 v2 v3; obtain ⟨r0, r1, r2, r3⟩ := cells4 HR4.out; obtain ⟨v0, v1, v2, v3⟩ := frees4 HR4.out)))
  all_goals first
    | ((with_reducible apply pst_set (k := 4) (g := w.heap.size + 1)); (case hf => rfl); (case hp => rfl); (case hB => exact HR4.out); (case hb => exact HB4.out); (case hg => omega); rfl)
    | trace_state
set_option maxRecDepth 100000 in
set_option maxHeartbeats 3200000 in
theorem pcont18_yes (n a p : ByteArray) (t : HS) (c : UInt8) (w : World)
    (hc : ∀ W, Calls Tryz.prog 140 #[.agg #[.int .i64 18, .string n, .string a, .string p], .int .u8 c.toNat, .string ⟨#[60, 47, 115, 99, 114, 105, 112, 116]⟩] W (SvB (.agg #[.int .i64 (t.c : Nat), .string (ofL t.n), .string (ofL t.a), .string (ofL t.p)]) true W)) :
    Calls Tryz.prog 122 #[.agg #[.int .i64 18, .string n, .string a, .string p], .int .u8 c.toNat] w (SvV t.val w) := by
  have HC := Lib.hid hc
  clear hc
  have HB2 := Lib.hid ((Bel.alloc w (.cells #[.int .i64 18, .string n, .string a, .string p] 74)).trans (Bel.alloc (w.alloc (.cells #[.int .i64 18, .string n, .string a, .string p] 74)) (.cells #[.int .i64 0, .string ⟨#[]⟩, .string ⟨#[]⟩, .string ⟨#[]⟩] 74)))
  have HR2 := Lib.hid (blk_at1h w (.cells #[.int .i64 18, .string n, .string a, .string p] 74) 74 [.int .i64 0, .string ⟨#[]⟩, .string ⟨#[]⟩, .string ⟨#[]⟩])
  have HX2 := Lib.hid ((Blk.new w 74 [.int .i64 18, .string n, .string a, .string p]).alloc (.cells #[.int .i64 0, .string ⟨#[]⟩, .string ⟨#[]⟩, .string ⟨#[]⟩] 74))
  have HE : Hid (∀ W, Calls Tryz.prog 139 #[.int .i64 18] W (SvV (.agg #[.string ⟨#[60, 47, 115, 99, 114, 105, 112, 116]⟩, .int .i64 16, .int .i64 17, .int .i64 18]) W)) := Lib.hid (fun W => pelem16_c 18 (by decide) W)
  go_enter Tryz.func122, Tryz.ntmps122
  go_wp2_with (first
    | (go_at_call 139; ((with_reducible refine (HE.out _).mono ?_); rintro e w1 ⟨rfl, hb⟩; have HB1 := Lib.hid ((HB2.out.trans hb).trans (Bel.alloc w1 (.cells #[.string ⟨#[60, 47, 115, 99, 114, 105, 112, 116]⟩, .int .i64 16, .int .i64 17, .int .i64 18] 197))); have HR1 := Lib.hid ((HR2.out.belh hb).alloc (.cells #[.string ⟨#[60, 47, 115, 99, 114, 105, 112, 116]⟩, .int .i64 16, .int .i64 17, .int .i64 18] 197)); have HX1 := Lib.hid ((HX2.out.belh hb).alloc (.cells #[.string ⟨#[60, 47, 115, 99, 114, 105, 112, 116]⟩, .int .i64 16, .int .i64 17, .int .i64 18] 197)); have HK1 := Lib.hid (Blk.new w1 197 [.string ⟨#[60, 47, 115, 99, 114, 105, 112, 116]⟩, .int .i64 16, .int .i64 17, .int .i64 18]); clear hb; obtain ⟨x0, x1, x2, x3⟩ := cells4 HX1.out; obtain ⟨k0, k1, k2, k3⟩ := cells4 HK1.out))
    | (go_at_call 140; ((with_reducible refine (HC.out _).mono ?_); rintro e w2 ⟨rfl, hb⟩; have HB3 := Lib.hid ((HB1.out.trans hb).trans (Bel.alloc w2 (.cells #[.int .i64 (t.c : Nat), .string (ofL t.n), .string (ofL t.a), .string (ofL t.p)] 74))); have HR3 := Lib.hid ((HR1.out.belh hb).alloc (.cells #[.int .i64 (t.c : Nat), .string (ofL t.n), .string (ofL t.a), .string (ofL t.p)] 74)); have HX3 := Lib.hid ((HX1.out.belh hb).alloc (.cells #[.int .i64 (t.c : Nat), .string (ofL t.n), .string (ofL t.a), .string (ofL t.p)] 74)); have HK3 := Lib.hid ((HK1.out.belh hb).alloc (.cells #[.int .i64 (t.c : Nat), .string (ofL t.n), .string (ofL t.a), .string (ofL t.p)] 74)); clear hb x0 x1 x2 x3 k0 k1 k2 k3; obtain ⟨x0, x1, x2, x3⟩ := cells4 HX3.out; obtain ⟨k0, k1, k2, k3⟩ := cells4 HK3.out; obtain ⟨r0, r1, r2, r3⟩ := cells4 HR3.out; obtain ⟨v0, v1, v2, v3⟩ := frees4 HR3.out)))
  all_goals first
    | ((with_reducible apply pst_set (k := 4) (g := w.heap.size + 1)); (case hf => rfl); (case hp => rfl); (case hB => exact HR3.out); (case hb => exact HB3.out); (case hg => omega); rfl)
    | trace_state
set_option maxRecDepth 100000 in
set_option maxHeartbeats 3200000 in
theorem pcont18_no (n a p : ByteArray) (t : HS) (c : UInt8) (w : World)
    (hc : ∀ W, Calls Tryz.prog 140 #[.agg #[.int .i64 18, .string n, .string a, .string p], .int .u8 c.toNat, .string ⟨#[60, 47, 115, 99, 114, 105, 112, 116]⟩] W (SvB (.agg #[.int .i64 0, .string ⟨#[]⟩, .string ⟨#[]⟩, .string ⟨#[]⟩]) false W))
    (hf : ∀ W, Calls Tryz.prog 141 #[.agg #[.int .i64 18, .string n, .string a, .string p], .int .u8 c.toNat, .int .u8 39, .int .i64 16] W (SvV (.agg #[.int .i64 (t.c : Nat), .string (ofL t.n), .string (ofL t.a), .string (ofL t.p)]) W)) :
    Calls Tryz.prog 122 #[.agg #[.int .i64 18, .string n, .string a, .string p], .int .u8 c.toNat] w (SvV t.val w) := by
  have HC := Lib.hid hc
  have HF := Lib.hid hf
  clear hc hf
  have HB2 := Lib.hid ((Bel.alloc w (.cells #[.int .i64 18, .string n, .string a, .string p] 74)).trans (Bel.alloc (w.alloc (.cells #[.int .i64 18, .string n, .string a, .string p] 74)) (.cells #[.int .i64 0, .string ⟨#[]⟩, .string ⟨#[]⟩, .string ⟨#[]⟩] 74)))
  have HR2 := Lib.hid (blk_at1h w (.cells #[.int .i64 18, .string n, .string a, .string p] 74) 74 [.int .i64 0, .string ⟨#[]⟩, .string ⟨#[]⟩, .string ⟨#[]⟩])
  have HX2 := Lib.hid ((Blk.new w 74 [.int .i64 18, .string n, .string a, .string p]).alloc (.cells #[.int .i64 0, .string ⟨#[]⟩, .string ⟨#[]⟩, .string ⟨#[]⟩] 74))
  have HE : Hid (∀ W, Calls Tryz.prog 139 #[.int .i64 18] W (SvV (.agg #[.string ⟨#[60, 47, 115, 99, 114, 105, 112, 116]⟩, .int .i64 16, .int .i64 17, .int .i64 18]) W)) := Lib.hid (fun W => pelem16_c 18 (by decide) W)
  go_enter Tryz.func122, Tryz.ntmps122
  go_wp2_with (first
    | (go_at_call 139; ((with_reducible refine (HE.out _).mono ?_); rintro e w1 ⟨rfl, hb⟩; have HB1 := Lib.hid ((HB2.out.trans hb).trans (Bel.alloc w1 (.cells #[.string ⟨#[60, 47, 115, 99, 114, 105, 112, 116]⟩, .int .i64 16, .int .i64 17, .int .i64 18] 197))); have HR1 := Lib.hid ((HR2.out.belh hb).alloc (.cells #[.string ⟨#[60, 47, 115, 99, 114, 105, 112, 116]⟩, .int .i64 16, .int .i64 17, .int .i64 18] 197)); have HX1 := Lib.hid ((HX2.out.belh hb).alloc (.cells #[.string ⟨#[60, 47, 115, 99, 114, 105, 112, 116]⟩, .int .i64 16, .int .i64 17, .int .i64 18] 197)); have HK1 := Lib.hid (Blk.new w1 197 [.string ⟨#[60, 47, 115, 99, 114, 105, 112, 116]⟩, .int .i64 16, .int .i64 17, .int .i64 18]); clear hb; obtain ⟨x0, x1, x2, x3⟩ := cells4 HX1.out; obtain ⟨k0, k1, k2, k3⟩ := cells4 HK1.out))
    | (go_at_call 140; ((with_reducible refine (HC.out _).mono ?_); rintro e w2 ⟨rfl, hb⟩; have HB3 := Lib.hid ((HB1.out.trans hb).trans (Bel.alloc w2 (.cells #[.int .i64 0, .string ⟨#[]⟩, .string ⟨#[]⟩, .string ⟨#[]⟩] 74))); have HR3 := Lib.hid ((HR1.out.belh hb).alloc (.cells #[.int .i64 0, .string ⟨#[]⟩, .string ⟨#[]⟩, .string ⟨#[]⟩] 74)); have HX3 := Lib.hid ((HX1.out.belh hb).alloc (.cells #[.int .i64 0, .string ⟨#[]⟩, .string ⟨#[]⟩, .string ⟨#[]⟩] 74)); have HK3 := Lib.hid ((HK1.out.belh hb).alloc (.cells #[.int .i64 0, .string ⟨#[]⟩, .string ⟨#[]⟩, .string ⟨#[]⟩] 74)); clear hb x0 x1 x2 x3 k0 k1 k2 k3; obtain ⟨x0, x1, x2, x3⟩ := cells4 HX3.out; obtain ⟨k0, k1, k2, k3⟩ := cells4 HK3.out; obtain ⟨r0, r1, r2, r3⟩ := cells4 HR3.out; obtain ⟨v0, v1, v2, v3⟩ := frees4 HR3.out))
    | (go_at_call 141; ((with_reducible refine (HF.out _).mono ?_); rintro e w3 ⟨rfl, hb⟩; have HB4 := Lib.hid (HB3.out.trans hb); have HR4 := Lib.hid (HR3.out.belh hb); clear hb x0 x1 x2 x3 k0 k1 k2 k3 r0 r1 r2 r3 v0 v1 v2 v3; obtain ⟨r0, r1, r2, r3⟩ := cells4 HR4.out; obtain ⟨v0, v1, v2, v3⟩ := frees4 HR4.out)))
  all_goals first
    | ((with_reducible apply pst_set (k := 4) (g := w.heap.size + 1)); (case hf => rfl); (case hp => rfl); (case hB => exact HR4.out); (case hb => exact HB4.out); (case hg => omega); rfl)
    | trace_state
set_option maxRecDepth 100000 in
set_option maxHeartbeats 3200000 in
theorem pcont19_yes (n a p : ByteArray) (t : HS) (c : UInt8) (w : World)
    (hc : ∀ W, Calls Tryz.prog 140 #[.agg #[.int .i64 19, .string n, .string a, .string p], .int .u8 c.toNat, .string ⟨#[60, 47, 115, 116, 121, 108, 101]⟩] W (SvB (.agg #[.int .i64 (t.c : Nat), .string (ofL t.n), .string (ofL t.a), .string (ofL t.p)]) true W)) :
    Calls Tryz.prog 122 #[.agg #[.int .i64 19, .string n, .string a, .string p], .int .u8 c.toNat] w (SvV t.val w) := by
  have HC := Lib.hid hc
  clear hc
  have HB2 := Lib.hid ((Bel.alloc w (.cells #[.int .i64 19, .string n, .string a, .string p] 74)).trans (Bel.alloc (w.alloc (.cells #[.int .i64 19, .string n, .string a, .string p] 74)) (.cells #[.int .i64 0, .string ⟨#[]⟩, .string ⟨#[]⟩, .string ⟨#[]⟩] 74)))
  have HR2 := Lib.hid (blk_at1h w (.cells #[.int .i64 19, .string n, .string a, .string p] 74) 74 [.int .i64 0, .string ⟨#[]⟩, .string ⟨#[]⟩, .string ⟨#[]⟩])
  have HX2 := Lib.hid ((Blk.new w 74 [.int .i64 19, .string n, .string a, .string p]).alloc (.cells #[.int .i64 0, .string ⟨#[]⟩, .string ⟨#[]⟩, .string ⟨#[]⟩] 74))
  have HE : Hid (∀ W, Calls Tryz.prog 139 #[.int .i64 19] W (SvV (.agg #[.string ⟨#[60, 47, 115, 116, 121, 108, 101]⟩, .int .i64 19, .int .i64 20, .int .i64 21]) W)) := Lib.hid (fun W => pelem19_c 19 (by decide) W)
  go_enter Tryz.func122, Tryz.ntmps122
  go_wp2_with (first
    | (go_at_call 139; ((with_reducible refine (HE.out _).mono ?_); rintro e w1 ⟨rfl, hb⟩; have HB1 := Lib.hid ((HB2.out.trans hb).trans (Bel.alloc w1 (.cells #[.string ⟨#[60, 47, 115, 116, 121, 108, 101]⟩, .int .i64 19, .int .i64 20, .int .i64 21] 197))); have HR1 := Lib.hid ((HR2.out.belh hb).alloc (.cells #[.string ⟨#[60, 47, 115, 116, 121, 108, 101]⟩, .int .i64 19, .int .i64 20, .int .i64 21] 197)); have HX1 := Lib.hid ((HX2.out.belh hb).alloc (.cells #[.string ⟨#[60, 47, 115, 116, 121, 108, 101]⟩, .int .i64 19, .int .i64 20, .int .i64 21] 197)); have HK1 := Lib.hid (Blk.new w1 197 [.string ⟨#[60, 47, 115, 116, 121, 108, 101]⟩, .int .i64 19, .int .i64 20, .int .i64 21]); clear hb; obtain ⟨x0, x1, x2, x3⟩ := cells4 HX1.out; obtain ⟨k0, k1, k2, k3⟩ := cells4 HK1.out))
    | (go_at_call 140; ((with_reducible refine (HC.out _).mono ?_); rintro e w2 ⟨rfl, hb⟩; have HB3 := Lib.hid ((HB1.out.trans hb).trans (Bel.alloc w2 (.cells #[.int .i64 (t.c : Nat), .string (ofL t.n), .string (ofL t.a), .string (ofL t.p)] 74))); have HR3 := Lib.hid ((HR1.out.belh hb).alloc (.cells #[.int .i64 (t.c : Nat), .string (ofL t.n), .string (ofL t.a), .string (ofL t.p)] 74)); have HX3 := Lib.hid ((HX1.out.belh hb).alloc (.cells #[.int .i64 (t.c : Nat), .string (ofL t.n), .string (ofL t.a), .string (ofL t.p)] 74)); have HK3 := Lib.hid ((HK1.out.belh hb).alloc (.cells #[.int .i64 (t.c : Nat), .string (ofL t.n), .string (ofL t.a), .string (ofL t.p)] 74)); clear hb x0 x1 x2 x3 k0 k1 k2 k3; obtain ⟨x0, x1, x2, x3⟩ := cells4 HX3.out; obtain ⟨k0, k1, k2, k3⟩ := cells4 HK3.out; obtain ⟨r0, r1, r2, r3⟩ := cells4 HR3.out; obtain ⟨v0, v1, v2, v3⟩ := frees4 HR3.out)))
  all_goals first
    | ((with_reducible apply pst_set (k := 4) (g := w.heap.size + 1)); (case hf => rfl); (case hp => rfl); (case hB => exact HR3.out); (case hb => exact HB3.out); (case hg => omega); rfl)
    | trace_state
set_option maxRecDepth 100000 in
set_option maxHeartbeats 3200000 in
theorem pcont19_no (n a p : ByteArray) (t : HS) (c : UInt8) (w : World)
    (hc : ∀ W, Calls Tryz.prog 140 #[.agg #[.int .i64 19, .string n, .string a, .string p], .int .u8 c.toNat, .string ⟨#[60, 47, 115, 116, 121, 108, 101]⟩] W (SvB (.agg #[.int .i64 0, .string ⟨#[]⟩, .string ⟨#[]⟩, .string ⟨#[]⟩]) false W))
    (hf : ∀ W, Calls Tryz.prog 142 #[.int .u8 c.toNat, .agg #[.string ⟨#[60, 47, 115, 116, 121, 108, 101]⟩, .int .i64 19, .int .i64 20, .int .i64 21]] W (SvV (.agg #[.int .i64 (t.c : Nat), .string (ofL t.n), .string (ofL t.a), .string (ofL t.p)]) W)) :
    Calls Tryz.prog 122 #[.agg #[.int .i64 19, .string n, .string a, .string p], .int .u8 c.toNat] w (SvV t.val w) := by
  have HC := Lib.hid hc
  have HF := Lib.hid hf
  clear hc hf
  have HB2 := Lib.hid ((Bel.alloc w (.cells #[.int .i64 19, .string n, .string a, .string p] 74)).trans (Bel.alloc (w.alloc (.cells #[.int .i64 19, .string n, .string a, .string p] 74)) (.cells #[.int .i64 0, .string ⟨#[]⟩, .string ⟨#[]⟩, .string ⟨#[]⟩] 74)))
  have HR2 := Lib.hid (blk_at1h w (.cells #[.int .i64 19, .string n, .string a, .string p] 74) 74 [.int .i64 0, .string ⟨#[]⟩, .string ⟨#[]⟩, .string ⟨#[]⟩])
  have HX2 := Lib.hid ((Blk.new w 74 [.int .i64 19, .string n, .string a, .string p]).alloc (.cells #[.int .i64 0, .string ⟨#[]⟩, .string ⟨#[]⟩, .string ⟨#[]⟩] 74))
  have HE : Hid (∀ W, Calls Tryz.prog 139 #[.int .i64 19] W (SvV (.agg #[.string ⟨#[60, 47, 115, 116, 121, 108, 101]⟩, .int .i64 19, .int .i64 20, .int .i64 21]) W)) := Lib.hid (fun W => pelem19_c 19 (by decide) W)
  go_enter Tryz.func122, Tryz.ntmps122
  go_wp2_with (first
    | (go_at_call 139; ((with_reducible refine (HE.out _).mono ?_); rintro e w1 ⟨rfl, hb⟩; have HB1 := Lib.hid ((HB2.out.trans hb).trans (Bel.alloc w1 (.cells #[.string ⟨#[60, 47, 115, 116, 121, 108, 101]⟩, .int .i64 19, .int .i64 20, .int .i64 21] 197))); have HR1 := Lib.hid ((HR2.out.belh hb).alloc (.cells #[.string ⟨#[60, 47, 115, 116, 121, 108, 101]⟩, .int .i64 19, .int .i64 20, .int .i64 21] 197)); have HX1 := Lib.hid ((HX2.out.belh hb).alloc (.cells #[.string ⟨#[60, 47, 115, 116, 121, 108, 101]⟩, .int .i64 19, .int .i64 20, .int .i64 21] 197)); have HK1 := Lib.hid (Blk.new w1 197 [.string ⟨#[60, 47, 115, 116, 121, 108, 101]⟩, .int .i64 19, .int .i64 20, .int .i64 21]); clear hb; obtain ⟨x0, x1, x2, x3⟩ := cells4 HX1.out; obtain ⟨k0, k1, k2, k3⟩ := cells4 HK1.out))
    | (go_at_call 140; ((with_reducible refine (HC.out _).mono ?_); rintro e w2 ⟨rfl, hb⟩; have HB3 := Lib.hid ((HB1.out.trans hb).trans (Bel.alloc w2 (.cells #[.int .i64 0, .string ⟨#[]⟩, .string ⟨#[]⟩, .string ⟨#[]⟩] 74))); have HR3 := Lib.hid ((HR1.out.belh hb).alloc (.cells #[.int .i64 0, .string ⟨#[]⟩, .string ⟨#[]⟩, .string ⟨#[]⟩] 74)); have HX3 := Lib.hid ((HX1.out.belh hb).alloc (.cells #[.int .i64 0, .string ⟨#[]⟩, .string ⟨#[]⟩, .string ⟨#[]⟩] 74)); have HK3 := Lib.hid ((HK1.out.belh hb).alloc (.cells #[.int .i64 0, .string ⟨#[]⟩, .string ⟨#[]⟩, .string ⟨#[]⟩] 74)); clear hb x0 x1 x2 x3 k0 k1 k2 k3; obtain ⟨x0, x1, x2, x3⟩ := cells4 HX3.out; obtain ⟨k0, k1, k2, k3⟩ := cells4 HK3.out; obtain ⟨r0, r1, r2, r3⟩ := cells4 HR3.out; obtain ⟨v0, v1, v2, v3⟩ := frees4 HR3.out))
    | (go_at_call 142; ((with_reducible refine (HF.out _).mono ?_); rintro e w3 ⟨rfl, hb⟩; have HB4 := Lib.hid (HB3.out.trans hb); have HR4 := Lib.hid (HR3.out.belh hb); clear hb x0 x1 x2 x3 k0 k1 k2 k3 r0 r1 r2 r3 v0 v1 v2 v3; obtain ⟨r0, r1, r2, r3⟩ := cells4 HR4.out; obtain ⟨v0, v1, v2, v3⟩ := frees4 HR4.out)))
  all_goals first
    | ((with_reducible apply pst_set (k := 4) (g := w.heap.size + 1)); (case hf => rfl); (case hp => rfl); (case hB => exact HR4.out); (case hb => exact HB4.out); (case hg => omega); rfl)
    | trace_state
set_option maxRecDepth 100000 in
set_option maxHeartbeats 3200000 in
theorem pcont20_yes (n a p : ByteArray) (t : HS) (c : UInt8) (w : World)
    (hc : ∀ W, Calls Tryz.prog 140 #[.agg #[.int .i64 20, .string n, .string a, .string p], .int .u8 c.toNat, .string ⟨#[60, 47, 115, 116, 121, 108, 101]⟩] W (SvB (.agg #[.int .i64 (t.c : Nat), .string (ofL t.n), .string (ofL t.a), .string (ofL t.p)]) true W)) :
    Calls Tryz.prog 122 #[.agg #[.int .i64 20, .string n, .string a, .string p], .int .u8 c.toNat] w (SvV t.val w) := by
  have HC := Lib.hid hc
  clear hc
  have HB2 := Lib.hid ((Bel.alloc w (.cells #[.int .i64 20, .string n, .string a, .string p] 74)).trans (Bel.alloc (w.alloc (.cells #[.int .i64 20, .string n, .string a, .string p] 74)) (.cells #[.int .i64 0, .string ⟨#[]⟩, .string ⟨#[]⟩, .string ⟨#[]⟩] 74)))
  have HR2 := Lib.hid (blk_at1h w (.cells #[.int .i64 20, .string n, .string a, .string p] 74) 74 [.int .i64 0, .string ⟨#[]⟩, .string ⟨#[]⟩, .string ⟨#[]⟩])
  have HX2 := Lib.hid ((Blk.new w 74 [.int .i64 20, .string n, .string a, .string p]).alloc (.cells #[.int .i64 0, .string ⟨#[]⟩, .string ⟨#[]⟩, .string ⟨#[]⟩] 74))
  have HE : Hid (∀ W, Calls Tryz.prog 139 #[.int .i64 20] W (SvV (.agg #[.string ⟨#[60, 47, 115, 116, 121, 108, 101]⟩, .int .i64 19, .int .i64 20, .int .i64 21]) W)) := Lib.hid (fun W => pelem19_c 20 (by decide) W)
  go_enter Tryz.func122, Tryz.ntmps122
  go_wp2_with (first
    | (go_at_call 139; ((with_reducible refine (HE.out _).mono ?_); rintro e w1 ⟨rfl, hb⟩; have HB1 := Lib.hid ((HB2.out.trans hb).trans (Bel.alloc w1 (.cells #[.string ⟨#[60, 47, 115, 116, 121, 108, 101]⟩, .int .i64 19, .int .i64 20, .int .i64 21] 197))); have HR1 := Lib.hid ((HR2.out.belh hb).alloc (.cells #[.string ⟨#[60, 47, 115, 116, 121, 108, 101]⟩, .int .i64 19, .int .i64 20, .int .i64 21] 197)); have HX1 := Lib.hid ((HX2.out.belh hb).alloc (.cells #[.string ⟨#[60, 47, 115, 116, 121, 108, 101]⟩, .int .i64 19, .int .i64 20, .int .i64 21] 197)); have HK1 := Lib.hid (Blk.new w1 197 [.string ⟨#[60, 47, 115, 116, 121, 108, 101]⟩, .int .i64 19, .int .i64 20, .int .i64 21]); clear hb; obtain ⟨x0, x1, x2, x3⟩ := cells4 HX1.out; obtain ⟨k0, k1, k2, k3⟩ := cells4 HK1.out))
    | (go_at_call 140; ((with_reducible refine (HC.out _).mono ?_); rintro e w2 ⟨rfl, hb⟩; have HB3 := Lib.hid ((HB1.out.trans hb).trans (Bel.alloc w2 (.cells #[.int .i64 (t.c : Nat), .string (ofL t.n), .string (ofL t.a), .string (ofL t.p)] 74))); have HR3 := Lib.hid ((HR1.out.belh hb).alloc (.cells #[.int .i64 (t.c : Nat), .string (ofL t.n), .string (ofL t.a), .string (ofL t.p)] 74)); have HX3 := Lib.hid ((HX1.out.belh hb).alloc (.cells #[.int .i64 (t.c : Nat), .string (ofL t.n), .string (ofL t.a), .string (ofL t.p)] 74)); have HK3 := Lib.hid ((HK1.out.belh hb).alloc (.cells #[.int .i64 (t.c : Nat), .string (ofL t.n), .string (ofL t.a), .string (ofL t.p)] 74)); clear hb x0 x1 x2 x3 k0 k1 k2 k3; obtain ⟨x0, x1, x2, x3⟩ := cells4 HX3.out; obtain ⟨k0, k1, k2, k3⟩ := cells4 HK3.out; obtain ⟨r0, r1, r2, r3⟩ := cells4 HR3.out; obtain ⟨v0, v1, v2, v3⟩ := frees4 HR3.out)))
  all_goals first
    | ((with_reducible apply pst_set (k := 4) (g := w.heap.size + 1)); (case hf => rfl); (case hp => rfl); (case hB => exact HR3.out); (case hb => exact HB3.out); (case hg => omega); rfl)
    | trace_state
set_option maxRecDepth 100000 in
set_option maxHeartbeats 3200000 in
theorem pcont20_no (n a p : ByteArray) (t : HS) (c : UInt8) (w : World)
    (hc : ∀ W, Calls Tryz.prog 140 #[.agg #[.int .i64 20, .string n, .string a, .string p], .int .u8 c.toNat, .string ⟨#[60, 47, 115, 116, 121, 108, 101]⟩] W (SvB (.agg #[.int .i64 0, .string ⟨#[]⟩, .string ⟨#[]⟩, .string ⟨#[]⟩]) false W))
    (hf : ∀ W, Calls Tryz.prog 141 #[.agg #[.int .i64 20, .string n, .string a, .string p], .int .u8 c.toNat, .int .u8 34, .int .i64 19] W (SvV (.agg #[.int .i64 (t.c : Nat), .string (ofL t.n), .string (ofL t.a), .string (ofL t.p)]) W)) :
    Calls Tryz.prog 122 #[.agg #[.int .i64 20, .string n, .string a, .string p], .int .u8 c.toNat] w (SvV t.val w) := by
  have HC := Lib.hid hc
  have HF := Lib.hid hf
  clear hc hf
  have HB2 := Lib.hid ((Bel.alloc w (.cells #[.int .i64 20, .string n, .string a, .string p] 74)).trans (Bel.alloc (w.alloc (.cells #[.int .i64 20, .string n, .string a, .string p] 74)) (.cells #[.int .i64 0, .string ⟨#[]⟩, .string ⟨#[]⟩, .string ⟨#[]⟩] 74)))
  have HR2 := Lib.hid (blk_at1h w (.cells #[.int .i64 20, .string n, .string a, .string p] 74) 74 [.int .i64 0, .string ⟨#[]⟩, .string ⟨#[]⟩, .string ⟨#[]⟩])
  have HX2 := Lib.hid ((Blk.new w 74 [.int .i64 20, .string n, .string a, .string p]).alloc (.cells #[.int .i64 0, .string ⟨#[]⟩, .string ⟨#[]⟩, .string ⟨#[]⟩] 74))
  have HE : Hid (∀ W, Calls Tryz.prog 139 #[.int .i64 20] W (SvV (.agg #[.string ⟨#[60, 47, 115, 116, 121, 108, 101]⟩, .int .i64 19, .int .i64 20, .int .i64 21]) W)) := Lib.hid (fun W => pelem19_c 20 (by decide) W)
  go_enter Tryz.func122, Tryz.ntmps122
  go_wp2_with (first
    | (go_at_call 139; ((with_reducible refine (HE.out _).mono ?_); rintro e w1 ⟨rfl, hb⟩; have HB1 := Lib.hid ((HB2.out.trans hb).trans (Bel.alloc w1 (.cells #[.string ⟨#[60, 47, 115, 116, 121, 108, 101]⟩, .int .i64 19, .int .i64 20, .int .i64 21] 197))); have HR1 := Lib.hid ((HR2.out.belh hb).alloc (.cells #[.string ⟨#[60, 47, 115, 116, 121, 108, 101]⟩, .int .i64 19, .int .i64 20, .int .i64 21] 197)); have HX1 := Lib.hid ((HX2.out.belh hb).alloc (.cells #[.string ⟨#[60, 47, 115, 116, 121, 108, 101]⟩, .int .i64 19, .int .i64 20, .int .i64 21] 197)); have HK1 := Lib.hid (Blk.new w1 197 [.string ⟨#[60, 47, 115, 116, 121, 108, 101]⟩, .int .i64 19, .int .i64 20, .int .i64 21]); clear hb; obtain ⟨x0, x1, x2, x3⟩ := cells4 HX1.out; obtain ⟨k0, k1, k2, k3⟩ := cells4 HK1.out))
    | (go_at_call 140; ((with_reducible refine (HC.out _).mono ?_); rintro e w2 ⟨rfl, hb⟩; have HB3 := Lib.hid ((HB1.out.trans hb).trans (Bel.alloc w2 (.cells #[.int .i64 0, .string ⟨#[]⟩, .string ⟨#[]⟩, .string ⟨#[]⟩] 74))); have HR3 := Lib.hid ((HR1.out.belh hb).alloc (.cells #[.int .i64 0, .string ⟨#[]⟩, .string ⟨#[]⟩, .string ⟨#[]⟩] 74)); have HX3 := Lib.hid ((HX1.out.belh hb).alloc (.cells #[.int .i64 0, .string ⟨#[]⟩, .string ⟨#[]⟩, .string ⟨#[]⟩] 74)); have HK3 := Lib.hid ((HK1.out.belh hb).alloc (.cells #[.int .i64 0, .string ⟨#[]⟩, .string ⟨#[]⟩, .string ⟨#[]⟩] 74)); clear hb x0 x1 x2 x3 k0 k1 k2 k3; obtain ⟨x0, x1, x2, x3⟩ := cells4 HX3.out; obtain ⟨k0, k1, k2, k3⟩ := cells4 HK3.out; obtain ⟨r0, r1, r2, r3⟩ := cells4 HR3.out; obtain ⟨v0, v1, v2, v3⟩ := frees4 HR3.out))
    | (go_at_call 141; ((with_reducible refine (HF.out _).mono ?_); rintro e w3 ⟨rfl, hb⟩; have HB4 := Lib.hid (HB3.out.trans hb); have HR4 := Lib.hid (HR3.out.belh hb); clear hb x0 x1 x2 x3 k0 k1 k2 k3 r0 r1 r2 r3 v0 v1 v2 v3; obtain ⟨r0, r1, r2, r3⟩ := cells4 HR4.out; obtain ⟨v0, v1, v2, v3⟩ := frees4 HR4.out)))
  all_goals first
    | ((with_reducible apply pst_set (k := 4) (g := w.heap.size + 1)); (case hf => rfl); (case hp => rfl); (case hB => exact HR4.out); (case hb => exact HB4.out); (case hg => omega); rfl)
    | trace_state
set_option maxRecDepth 100000 in
set_option maxHeartbeats 3200000 in
theorem pcont21_yes (n a p : ByteArray) (t : HS) (c : UInt8) (w : World)
    (hc : ∀ W, Calls Tryz.prog 140 #[.agg #[.int .i64 21, .string n, .string a, .string p], .int .u8 c.toNat, .string ⟨#[60, 47, 115, 116, 121, 108, 101]⟩] W (SvB (.agg #[.int .i64 (t.c : Nat), .string (ofL t.n), .string (ofL t.a), .string (ofL t.p)]) true W)) :
    Calls Tryz.prog 122 #[.agg #[.int .i64 21, .string n, .string a, .string p], .int .u8 c.toNat] w (SvV t.val w) := by
  have HC := Lib.hid hc
  clear hc
  have HB2 := Lib.hid ((Bel.alloc w (.cells #[.int .i64 21, .string n, .string a, .string p] 74)).trans (Bel.alloc (w.alloc (.cells #[.int .i64 21, .string n, .string a, .string p] 74)) (.cells #[.int .i64 0, .string ⟨#[]⟩, .string ⟨#[]⟩, .string ⟨#[]⟩] 74)))
  have HR2 := Lib.hid (blk_at1h w (.cells #[.int .i64 21, .string n, .string a, .string p] 74) 74 [.int .i64 0, .string ⟨#[]⟩, .string ⟨#[]⟩, .string ⟨#[]⟩])
  have HX2 := Lib.hid ((Blk.new w 74 [.int .i64 21, .string n, .string a, .string p]).alloc (.cells #[.int .i64 0, .string ⟨#[]⟩, .string ⟨#[]⟩, .string ⟨#[]⟩] 74))
  have HE : Hid (∀ W, Calls Tryz.prog 139 #[.int .i64 21] W (SvV (.agg #[.string ⟨#[60, 47, 115, 116, 121, 108, 101]⟩, .int .i64 19, .int .i64 20, .int .i64 21]) W)) := Lib.hid (fun W => pelem19_c 21 (by decide) W)
  go_enter Tryz.func122, Tryz.ntmps122
  go_wp2_with (first
    | (go_at_call 139; ((with_reducible refine (HE.out _).mono ?_); rintro e w1 ⟨rfl, hb⟩; have HB1 := Lib.hid ((HB2.out.trans hb).trans (Bel.alloc w1 (.cells #[.string ⟨#[60, 47, 115, 116, 121, 108, 101]⟩, .int .i64 19, .int .i64 20, .int .i64 21] 197))); have HR1 := Lib.hid ((HR2.out.belh hb).alloc (.cells #[.string ⟨#[60, 47, 115, 116, 121, 108, 101]⟩, .int .i64 19, .int .i64 20, .int .i64 21] 197)); have HX1 := Lib.hid ((HX2.out.belh hb).alloc (.cells #[.string ⟨#[60, 47, 115, 116, 121, 108, 101]⟩, .int .i64 19, .int .i64 20, .int .i64 21] 197)); have HK1 := Lib.hid (Blk.new w1 197 [.string ⟨#[60, 47, 115, 116, 121, 108, 101]⟩, .int .i64 19, .int .i64 20, .int .i64 21]); clear hb; obtain ⟨x0, x1, x2, x3⟩ := cells4 HX1.out; obtain ⟨k0, k1, k2, k3⟩ := cells4 HK1.out))
    | (go_at_call 140; ((with_reducible refine (HC.out _).mono ?_); rintro e w2 ⟨rfl, hb⟩; have HB3 := Lib.hid ((HB1.out.trans hb).trans (Bel.alloc w2 (.cells #[.int .i64 (t.c : Nat), .string (ofL t.n), .string (ofL t.a), .string (ofL t.p)] 74))); have HR3 := Lib.hid ((HR1.out.belh hb).alloc (.cells #[.int .i64 (t.c : Nat), .string (ofL t.n), .string (ofL t.a), .string (ofL t.p)] 74)); have HX3 := Lib.hid ((HX1.out.belh hb).alloc (.cells #[.int .i64 (t.c : Nat), .string (ofL t.n), .string (ofL t.a), .string (ofL t.p)] 74)); have HK3 := Lib.hid ((HK1.out.belh hb).alloc (.cells #[.int .i64 (t.c : Nat), .string (ofL t.n), .string (ofL t.a), .string (ofL t.p)] 74)); clear hb x0 x1 x2 x3 k0 k1 k2 k3; obtain ⟨x0, x1, x2, x3⟩ := cells4 HX3.out; obtain ⟨k0, k1, k2, k3⟩ := cells4 HK3.out; obtain ⟨r0, r1, r2, r3⟩ := cells4 HR3.out; obtain ⟨v0, v1, v2, v3⟩ := frees4 HR3.out)))
  all_goals first
    | ((with_reducible apply pst_set (k := 4) (g := w.heap.size + 1)); (case hf => rfl); (case hp => rfl); (case hB => exact HR3.out); (case hb => exact HB3.out); (case hg => omega); rfl)
    | trace_state
set_option maxRecDepth 100000 in
set_option maxHeartbeats 3200000 in
theorem pcont21_no (n a p : ByteArray) (t : HS) (c : UInt8) (w : World)
    (hc : ∀ W, Calls Tryz.prog 140 #[.agg #[.int .i64 21, .string n, .string a, .string p], .int .u8 c.toNat, .string ⟨#[60, 47, 115, 116, 121, 108, 101]⟩] W (SvB (.agg #[.int .i64 0, .string ⟨#[]⟩, .string ⟨#[]⟩, .string ⟨#[]⟩]) false W))
    (hf : ∀ W, Calls Tryz.prog 141 #[.agg #[.int .i64 21, .string n, .string a, .string p], .int .u8 c.toNat, .int .u8 39, .int .i64 19] W (SvV (.agg #[.int .i64 (t.c : Nat), .string (ofL t.n), .string (ofL t.a), .string (ofL t.p)]) W)) :
    Calls Tryz.prog 122 #[.agg #[.int .i64 21, .string n, .string a, .string p], .int .u8 c.toNat] w (SvV t.val w) := by
  have HC := Lib.hid hc
  have HF := Lib.hid hf
  clear hc hf
  have HB2 := Lib.hid ((Bel.alloc w (.cells #[.int .i64 21, .string n, .string a, .string p] 74)).trans (Bel.alloc (w.alloc (.cells #[.int .i64 21, .string n, .string a, .string p] 74)) (.cells #[.int .i64 0, .string ⟨#[]⟩, .string ⟨#[]⟩, .string ⟨#[]⟩] 74)))
  have HR2 := Lib.hid (blk_at1h w (.cells #[.int .i64 21, .string n, .string a, .string p] 74) 74 [.int .i64 0, .string ⟨#[]⟩, .string ⟨#[]⟩, .string ⟨#[]⟩])
  have HX2 := Lib.hid ((Blk.new w 74 [.int .i64 21, .string n, .string a, .string p]).alloc (.cells #[.int .i64 0, .string ⟨#[]⟩, .string ⟨#[]⟩, .string ⟨#[]⟩] 74))
  have HE : Hid (∀ W, Calls Tryz.prog 139 #[.int .i64 21] W (SvV (.agg #[.string ⟨#[60, 47, 115, 116, 121, 108, 101]⟩, .int .i64 19, .int .i64 20, .int .i64 21]) W)) := Lib.hid (fun W => pelem19_c 21 (by decide) W)
  go_enter Tryz.func122, Tryz.ntmps122
  go_wp2_with (first
    | (go_at_call 139; ((with_reducible refine (HE.out _).mono ?_); rintro e w1 ⟨rfl, hb⟩; have HB1 := Lib.hid ((HB2.out.trans hb).trans (Bel.alloc w1 (.cells #[.string ⟨#[60, 47, 115, 116, 121, 108, 101]⟩, .int .i64 19, .int .i64 20, .int .i64 21] 197))); have HR1 := Lib.hid ((HR2.out.belh hb).alloc (.cells #[.string ⟨#[60, 47, 115, 116, 121, 108, 101]⟩, .int .i64 19, .int .i64 20, .int .i64 21] 197)); have HX1 := Lib.hid ((HX2.out.belh hb).alloc (.cells #[.string ⟨#[60, 47, 115, 116, 121, 108, 101]⟩, .int .i64 19, .int .i64 20, .int .i64 21] 197)); have HK1 := Lib.hid (Blk.new w1 197 [.string ⟨#[60, 47, 115, 116, 121, 108, 101]⟩, .int .i64 19, .int .i64 20, .int .i64 21]); clear hb; obtain ⟨x0, x1, x2, x3⟩ := cells4 HX1.out; obtain ⟨k0, k1, k2, k3⟩ := cells4 HK1.out))
    | (go_at_call 140; ((with_reducible refine (HC.out _).mono ?_); rintro e w2 ⟨rfl, hb⟩; have HB3 := Lib.hid ((HB1.out.trans hb).trans (Bel.alloc w2 (.cells #[.int .i64 0, .string ⟨#[]⟩, .string ⟨#[]⟩, .string ⟨#[]⟩] 74))); have HR3 := Lib.hid ((HR1.out.belh hb).alloc (.cells #[.int .i64 0, .string ⟨#[]⟩, .string ⟨#[]⟩, .string ⟨#[]⟩] 74)); have HX3 := Lib.hid ((HX1.out.belh hb).alloc (.cells #[.int .i64 0, .string ⟨#[]⟩, .string ⟨#[]⟩, .string ⟨#[]⟩] 74)); have HK3 := Lib.hid ((HK1.out.belh hb).alloc (.cells #[.int .i64 0, .string ⟨#[]⟩, .string ⟨#[]⟩, .string ⟨#[]⟩] 74)); clear hb x0 x1 x2 x3 k0 k1 k2 k3; obtain ⟨x0, x1, x2, x3⟩ := cells4 HX3.out; obtain ⟨k0, k1, k2, k3⟩ := cells4 HK3.out; obtain ⟨r0, r1, r2, r3⟩ := cells4 HR3.out; obtain ⟨v0, v1, v2, v3⟩ := frees4 HR3.out))
    | (go_at_call 141; ((with_reducible refine (HF.out _).mono ?_); rintro e w3 ⟨rfl, hb⟩; have HB4 := Lib.hid (HB3.out.trans hb); have HR4 := Lib.hid (HR3.out.belh hb); clear hb x0 x1 x2 x3 k0 k1 k2 k3 r0 r1 r2 r3 v0 v1 v2 v3; obtain ⟨r0, r1, r2, r3⟩ := cells4 HR4.out; obtain ⟨v0, v1, v2, v3⟩ := frees4 HR4.out)))
  all_goals first
    | ((with_reducible apply pst_set (k := 4) (g := w.heap.size + 1)); (case hf => rfl); (case hp => rfl); (case hB => exact HR4.out); (case hb => exact HB4.out); (case hg => omega); rfl)
    | trace_state
theorem pre_iff (p : List UInt8) : preB p [60] = true ↔ p.head? = some 60 := by
  cases p with
  | nil => simp [preB]
  | cons d q => simp [preB]
theorem preE_iff {E p : List UInt8} {l : UInt8} (h : p = E.take p.length) (hl : p.length < E.length) : preB E (p ++ [l]) = true ↔ E[p.length]? = some l := by
  unfold preB
  rw [decide_eq_true_iff, List.length_append]
  show E.take (p.length + 1) = _ ↔ _
  rw [List.take_add_one, ← h, List.getElem?_eq_getElem hl]
  simp
theorem eqE_next {E p : List UInt8} {l : UInt8} (h : p ++ [l] = E) : E[p.length]? = some l := by
  rw [← h]
  simp
theorem pt_head {k : Nat} {p : List UInt8} (h : PtOk k p) (hd : p.head? = some 60) : p.length < (endL k).length ∧ p = (endL k).take p.length := by
  rcases h with rfl | ⟨rfl, _⟩ | ⟨_, h1, h2⟩
  · simp at hd
  · simp at hd
  · exact ⟨h1, h2⟩
theorem endLen (k : Nat) : (endL k).length ≤ 8 := by
  unfold endL
  split <;> decide
theorem pt_len {k : Nat} {p : List UInt8} (h : PtOk k p) : p.length ≤ 1000 := by
  have := endLen k
  rcases h with rfl | ⟨rfl, _⟩ | ⟨_, h1, h2⟩
  · simp
  · simp
  · omega
/-- What is left where no end string begins or goes on. -/
def restS (k : Nat) (p : List UInt8) (c : UInt8) : HS := if k = codeC k then codeS k (k + 1) (k + 2) c else strS k p c (if k = codeC k + 2 then 39 else 34) (codeC k)
theorem rest_eq {k : Nat} {p : List UInt8} (c : UInt8) (hpt : PtOk k p) (h60 : ¬ c = 60) (hno : ¬ (p.head? = some 60 ∧ (endL k)[p.length]? = some (lowB c))) : rawS ⟨k, [], [], p⟩ c = restS k p c := by
  unfold rawS restS
  simp only
  rw [if_neg hno, if_neg h60]
  by_cases hk : k = codeC k
  · rw [if_pos hk]
    have hp : ¬ p = [92] := by
      rintro rfl
      rcases hpt with h | ⟨_, h⟩ | ⟨_, _, h⟩
      · simp at h
      · exact h hk
      · simp [endL] at h
    rw [if_neg hp, if_pos hk]
    unfold codeS
    by_cases h1 : c = 34
    · rw [if_pos h1, if_pos h1, ← hk]; rfl
    · rw [if_neg h1, if_neg h1]
      by_cases h2 : c = 39
      · rw [if_pos h2, if_pos h2, ← hk]; rfl
      · rw [if_neg h2, if_neg h2]; rfl
  · rw [if_neg hk]
    unfold strS
    by_cases hp : p = [92]
    · rw [if_pos hp, if_pos hp, if_neg hk]; rfl
    · rw [if_neg hp, if_neg hp, if_neg hk]
      by_cases h1 : c = (if k = codeC k + 2 then 39 else 34) ∨ c = 10
      · rw [if_pos h1, if_pos h1]
        have : ¬ c = 92 := by
          rintro rfl
          rcases h1 with h1 | h1
          · split at h1 <;> exact absurd h1 (by decide)
          · exact absurd h1 (by decide)
        rw [if_neg this]; rfl
      · rw [if_neg h1, if_neg h1]
        by_cases h2 : c = 92
        · rw [if_pos h2, if_pos h2]
        · rw [if_neg h2, if_neg h2]; rfl
theorem cont_pure (k : Nat) (p : List UInt8) (c : UInt8) (hpt : PtOk k p) :
    (endB p c (endL k) = true ∧ endS k p c (endL k) = rawS ⟨k, [], [], p⟩ c) ∨ (endB p c (endL k) = false ∧ endS k p c (endL k) = s0 0 ∧ rawS ⟨k, [], [], p⟩ c = restS k p c) := by
  have h60 : ((c.toNat : Int) == 60) = true ↔ c = 60 := by rw [u8_iff, beq_iff_eq]; rfl
  have he : ((ofL (p ++ [lowB c])).toList == (ofL (endL k)).toList) = true ↔ p ++ [lowB c] = endL k := by rw [ofL_list, ofL_list, beq_iff_eq]
  by_cases hno : p.head? = some 60 ∧ (endL k)[p.length]? = some (lowB c)
  · obtain ⟨hd, hx⟩ := hno
    obtain ⟨hl, ht⟩ := pt_head hpt hd
    refine .inl ?_
    unfold endB endS rawS
    simp only [pre_iff, he, preE_iff ht hl, hd, hx, if_true, and_self]
    split <;> exact ⟨rfl, trivial⟩
  · have e1 : preB p [60] = true → ¬ (((ofL (p ++ [lowB c])).toList == (ofL (endL k)).toList) = true) ∧ ¬ (preB (endL k) (p ++ [lowB c]) = true) := by
      intro h
      have hd := (pre_iff p).1 h
      obtain ⟨hl, ht⟩ := pt_head hpt hd
      refine ⟨fun h1 => hno ⟨hd, eqE_next (he.1 h1)⟩, fun h1 => hno ⟨hd, (preE_iff ht hl).1 h1⟩⟩
    by_cases hc : c = 60
    · refine .inl ?_
      have hr : rawS ⟨k, [], [], p⟩ c = ⟨k, [], [], [60]⟩ := by
        unfold rawS
        simp only
        rw [if_neg hno, if_pos hc]
      rw [hr]
      unfold endB endS
      by_cases h : preB p [60] = true
      · rw [if_pos h, if_pos h, if_neg (e1 h).1, if_neg (e1 h).1, if_neg (e1 h).2, if_neg (e1 h).2, if_pos (h60.2 hc), if_pos (h60.2 hc)]; exact ⟨rfl, rfl⟩
      · rw [if_neg h, if_neg h, if_pos (h60.2 hc), if_pos (h60.2 hc)]; exact ⟨rfl, rfl⟩
    · refine .inr ⟨?_, ?_, rest_eq c hpt hc hno⟩
      · unfold endB
        by_cases h : preB p [60] = true
        · rw [if_pos h, if_neg (e1 h).1, if_neg (e1 h).2, if_neg (fun x => hc (h60.1 x))]
        · rw [if_neg h, if_neg (fun x => hc (h60.1 x))]
      · unfold endS
        by_cases h : preB p [60] = true
        · rw [if_pos h, if_neg (e1 h).1, if_neg (e1 h).2, if_neg (fun x => hc (h60.1 x))]
        · rw [if_neg h, if_neg (fun x => hc (h60.1 x))]
/-- Contents. -/
theorem pcontent_c (k : Nat) (h1 : 16 ≤ k) (h2 : k ≤ 21) (p : List UInt8) (hpt : PtOk k p) (c : UInt8) (w : World) : Calls Tryz.prog 122 #[stV (k : Nat) ⟨#[]⟩ ⟨#[]⟩ (ofL p), .int .u8 c.toNat] w (SvP (rawS ⟨k, [], [], p⟩ c) w) := by
  have hend := fun W => pend_c k ⟨#[]⟩ ⟨#[]⟩ p (endL k) c W (pt_len hpt) (by have := endLen k; omega)
  have hk : k = 16 ∨ k = 17 ∨ k = 18 ∨ k = 19 ∨ k = 20 ∨ k = 21 := by omega
  rcases cont_pure k p c hpt with ⟨hb, he⟩ | ⟨hb, he, hr⟩
  · rw [hb, he] at hend
    rcases hk with rfl | rfl | rfl | rfl | rfl | rfl
    · exact pcont16_yes _ _ _ _ c w hend
    · exact pcont17_yes _ _ _ _ c w hend
    · exact pcont18_yes _ _ _ _ c w hend
    · exact pcont19_yes _ _ _ _ c w hend
    · exact pcont20_yes _ _ _ _ c w hend
    · exact pcont21_yes _ _ _ _ c w hend
  · rw [hb, he] at hend
    rw [hr]
    rcases hk with rfl | rfl | rfl | rfl | rfl | rfl
    · exact pcont16_no _ _ _ (codeS 16 17 18 c) c w hend fun W => pcode_c _ 16 17 18 c W
    · exact pcont17_no _ _ _ (strS 17 p c 34 16) c w hend fun W => pstring_c 17 16 _ _ p c 34 W
    · exact pcont18_no _ _ _ (strS 18 p c 39 16) c w hend fun W => pstring_c 18 16 _ _ p c 39 W
    · exact pcont19_no _ _ _ (codeS 19 20 21 c) c w hend fun W => pcode_c _ 19 20 21 c W
    · exact pcont20_no _ _ _ (strS 20 p c 34 19) c w hend fun W => pstring_c 20 19 _ _ p c 34 W
    · exact pcont21_no _ _ _ (strS 21 p c 39 19) c w hend fun W => pstring_c 21 19 _ _ p c 39 W
set_option maxRecDepth 100000 in
set_option maxHeartbeats 3200000 in
theorem ptg_open (k : Int) (N A' P : ByteArray) (t : HS) (c : UInt8) (w : World) (h62 : ((c.toNat : Int) == 62) = true)
    (hc : ∀ W, Calls Tryz.prog 132 #[.agg #[.int .i64 k, .string N, .string A', .string P]] W (SvV (.agg #[.int .i64 (t.c : Nat), .string (ofL t.n), .string (ofL t.a), .string (ofL t.p)]) W)) :
    Calls Tryz.prog 120 #[stV k N A' P, .int .u8 c.toNat] w (SvV t.val w) := by
  unfold stV
  have HC := Lib.hid hc
  clear hc
  have HB2 := Lib.hid ((Bel.alloc w (.cells #[.int .i64 k, .string N, .string A', .string P] 74)).trans (Bel.alloc (w.alloc (.cells #[.int .i64 k, .string N, .string A', .string P] 74)) (.cells #[.int .i64 0, .string ⟨#[]⟩, .string ⟨#[]⟩, .string ⟨#[]⟩] 74)))
  have HR2 := Lib.hid (blk_at1h w (.cells #[.int .i64 k, .string N, .string A', .string P] 74) 74 [.int .i64 0, .string ⟨#[]⟩, .string ⟨#[]⟩, .string ⟨#[]⟩])
  go_enter Tryz.func120, Tryz.ntmps120
  go_wp2_with (go_at_call 132; ((with_reducible refine (HC.out _).mono ?_); rintro e w2 ⟨rfl, hb⟩; have HB := Lib.hid (HB2.out.trans hb); have HR := Lib.hid (HR2.out.belh hb); clear hb; obtain ⟨r0, r1, r2, r3⟩ := cells4 HR.out; obtain ⟨v0, v1, v2, v3⟩ := frees4 HR.out))
  all_goals first
    | ((with_reducible apply pst_set (k := 4) (g := w.heap.size + 1)); (case hf => rfl); (case hp => rfl); (case hB => exact HR.out); (case hb => exact HB.out); (case hg => omega); rfl)
    | trace_state
set_option maxRecDepth 100000 in
set_option maxHeartbeats 3200000 in
theorem ptg_1 (N A' P : ByteArray) (t : HS) (c : UInt8) (w : World) (h62 : ((c.toNat : Int) == 62) = false)
    (hc : ∀ W, Calls Tryz.prog 138 #[.agg #[.int .i64 1, .string N, .string A', .string P], .int .u8 c.toNat] W (SvV (.agg #[.int .i64 (t.c : Nat), .string (ofL t.n), .string (ofL t.a), .string (ofL t.p)]) W)) :
    Calls Tryz.prog 120 #[stV 1 N A' P, .int .u8 c.toNat] w (SvV t.val w) := by
  unfold stV
  have HC := Lib.hid hc
  clear hc
  have HB2 := Lib.hid ((Bel.alloc w (.cells #[.int .i64 1, .string N, .string A', .string P] 74)).trans (Bel.alloc (w.alloc (.cells #[.int .i64 1, .string N, .string A', .string P] 74)) (.cells #[.int .i64 0, .string ⟨#[]⟩, .string ⟨#[]⟩, .string ⟨#[]⟩] 74)))
  have HR2 := Lib.hid (blk_at1h w (.cells #[.int .i64 1, .string N, .string A', .string P] 74) 74 [.int .i64 0, .string ⟨#[]⟩, .string ⟨#[]⟩, .string ⟨#[]⟩])
  go_enter Tryz.func120, Tryz.ntmps120
  go_wp2_with (go_at_call 138; ((with_reducible refine (HC.out _).mono ?_); rintro e w2 ⟨rfl, hb⟩; have HB := Lib.hid (HB2.out.trans hb); have HR := Lib.hid (HR2.out.belh hb); clear hb; obtain ⟨r0, r1, r2, r3⟩ := cells4 HR.out; obtain ⟨v0, v1, v2, v3⟩ := frees4 HR.out))
  all_goals first
    | ((with_reducible apply pst_set (k := 4) (g := w.heap.size + 1)); (case hf => rfl); (case hp => rfl); (case hB => exact HR.out); (case hb => exact HB.out); (case hg => omega); rfl)
    | trace_state
set_option maxRecDepth 100000 in
set_option maxHeartbeats 3200000 in
theorem ptg_2 (N A' P : ByteArray) (t : HS) (c : UInt8) (w : World) (h62 : ((c.toNat : Int) == 62) = false)
    (hc : ∀ W, Calls Tryz.prog 133 #[.agg #[.int .i64 2, .string N, .string A', .string P], .int .u8 c.toNat] W (SvV (.agg #[.int .i64 (t.c : Nat), .string (ofL t.n), .string (ofL t.a), .string (ofL t.p)]) W)) :
    Calls Tryz.prog 120 #[stV 2 N A' P, .int .u8 c.toNat] w (SvV t.val w) := by
  unfold stV
  have HC := Lib.hid hc
  clear hc
  have HB2 := Lib.hid ((Bel.alloc w (.cells #[.int .i64 2, .string N, .string A', .string P] 74)).trans (Bel.alloc (w.alloc (.cells #[.int .i64 2, .string N, .string A', .string P] 74)) (.cells #[.int .i64 0, .string ⟨#[]⟩, .string ⟨#[]⟩, .string ⟨#[]⟩] 74)))
  have HR2 := Lib.hid (blk_at1h w (.cells #[.int .i64 2, .string N, .string A', .string P] 74) 74 [.int .i64 0, .string ⟨#[]⟩, .string ⟨#[]⟩, .string ⟨#[]⟩])
  go_enter Tryz.func120, Tryz.ntmps120
  go_wp2_with (go_at_call 133; ((with_reducible refine (HC.out _).mono ?_); rintro e w2 ⟨rfl, hb⟩; have HB := Lib.hid (HB2.out.trans hb); have HR := Lib.hid (HR2.out.belh hb); clear hb; obtain ⟨r0, r1, r2, r3⟩ := cells4 HR.out; obtain ⟨v0, v1, v2, v3⟩ := frees4 HR.out))
  all_goals first
    | ((with_reducible apply pst_set (k := 4) (g := w.heap.size + 1)); (case hf => rfl); (case hp => rfl); (case hB => exact HR.out); (case hb => exact HB.out); (case hg => omega); rfl)
    | trace_state
set_option maxRecDepth 100000 in
set_option maxHeartbeats 3200000 in
theorem ptg_3 (N A' P : ByteArray) (t : HS) (c : UInt8) (w : World) (h62 : ((c.toNat : Int) == 62) = false)
    (hc : ∀ W, Calls Tryz.prog 134 #[.agg #[.int .i64 3, .string N, .string A', .string P], .int .u8 c.toNat] W (SvV (.agg #[.int .i64 (t.c : Nat), .string (ofL t.n), .string (ofL t.a), .string (ofL t.p)]) W)) :
    Calls Tryz.prog 120 #[stV 3 N A' P, .int .u8 c.toNat] w (SvV t.val w) := by
  unfold stV
  have HC := Lib.hid hc
  clear hc
  have HB2 := Lib.hid ((Bel.alloc w (.cells #[.int .i64 3, .string N, .string A', .string P] 74)).trans (Bel.alloc (w.alloc (.cells #[.int .i64 3, .string N, .string A', .string P] 74)) (.cells #[.int .i64 0, .string ⟨#[]⟩, .string ⟨#[]⟩, .string ⟨#[]⟩] 74)))
  have HR2 := Lib.hid (blk_at1h w (.cells #[.int .i64 3, .string N, .string A', .string P] 74) 74 [.int .i64 0, .string ⟨#[]⟩, .string ⟨#[]⟩, .string ⟨#[]⟩])
  go_enter Tryz.func120, Tryz.ntmps120
  go_wp2_with (go_at_call 134; ((with_reducible refine (HC.out _).mono ?_); rintro e w2 ⟨rfl, hb⟩; have HB := Lib.hid (HB2.out.trans hb); have HR := Lib.hid (HR2.out.belh hb); clear hb; obtain ⟨r0, r1, r2, r3⟩ := cells4 HR.out; obtain ⟨v0, v1, v2, v3⟩ := frees4 HR.out))
  all_goals first
    | ((with_reducible apply pst_set (k := 4) (g := w.heap.size + 1)); (case hf => rfl); (case hp => rfl); (case hB => exact HR.out); (case hb => exact HB.out); (case hg => omega); rfl)
    | trace_state
set_option maxRecDepth 100000 in
set_option maxHeartbeats 3200000 in
theorem ptg_4 (N A' P : ByteArray) (t : HS) (c : UInt8) (w : World) (h62 : ((c.toNat : Int) == 62) = false)
    (hc : ∀ W, Calls Tryz.prog 135 #[.agg #[.int .i64 4, .string N, .string A', .string P], .int .u8 c.toNat] W (SvV (.agg #[.int .i64 (t.c : Nat), .string (ofL t.n), .string (ofL t.a), .string (ofL t.p)]) W)) :
    Calls Tryz.prog 120 #[stV 4 N A' P, .int .u8 c.toNat] w (SvV t.val w) := by
  unfold stV
  have HC := Lib.hid hc
  clear hc
  have HB2 := Lib.hid ((Bel.alloc w (.cells #[.int .i64 4, .string N, .string A', .string P] 74)).trans (Bel.alloc (w.alloc (.cells #[.int .i64 4, .string N, .string A', .string P] 74)) (.cells #[.int .i64 0, .string ⟨#[]⟩, .string ⟨#[]⟩, .string ⟨#[]⟩] 74)))
  have HR2 := Lib.hid (blk_at1h w (.cells #[.int .i64 4, .string N, .string A', .string P] 74) 74 [.int .i64 0, .string ⟨#[]⟩, .string ⟨#[]⟩, .string ⟨#[]⟩])
  go_enter Tryz.func120, Tryz.ntmps120
  go_wp2_with (go_at_call 135; ((with_reducible refine (HC.out _).mono ?_); rintro e w2 ⟨rfl, hb⟩; have HB := Lib.hid (HB2.out.trans hb); have HR := Lib.hid (HR2.out.belh hb); clear hb; obtain ⟨r0, r1, r2, r3⟩ := cells4 HR.out; obtain ⟨v0, v1, v2, v3⟩ := frees4 HR.out))
  all_goals first
    | ((with_reducible apply pst_set (k := 4) (g := w.heap.size + 1)); (case hf => rfl); (case hp => rfl); (case hB => exact HR.out); (case hb => exact HB.out); (case hg => omega); rfl)
    | trace_state
set_option maxRecDepth 100000 in
set_option maxHeartbeats 3200000 in
theorem ptg_5 (N A' P : ByteArray) (t : HS) (c : UInt8) (w : World) (h62 : ((c.toNat : Int) == 62) = false)
    (hc : ∀ W, Calls Tryz.prog 136 #[.agg #[.int .i64 5, .string N, .string A', .string P], .int .u8 c.toNat] W (SvV (.agg #[.int .i64 (t.c : Nat), .string (ofL t.n), .string (ofL t.a), .string (ofL t.p)]) W)) :
    Calls Tryz.prog 120 #[stV 5 N A' P, .int .u8 c.toNat] w (SvV t.val w) := by
  unfold stV
  have HC := Lib.hid hc
  clear hc
  have HB2 := Lib.hid ((Bel.alloc w (.cells #[.int .i64 5, .string N, .string A', .string P] 74)).trans (Bel.alloc (w.alloc (.cells #[.int .i64 5, .string N, .string A', .string P] 74)) (.cells #[.int .i64 0, .string ⟨#[]⟩, .string ⟨#[]⟩, .string ⟨#[]⟩] 74)))
  have HR2 := Lib.hid (blk_at1h w (.cells #[.int .i64 5, .string N, .string A', .string P] 74) 74 [.int .i64 0, .string ⟨#[]⟩, .string ⟨#[]⟩, .string ⟨#[]⟩])
  go_enter Tryz.func120, Tryz.ntmps120
  go_wp2_with (go_at_call 136; ((with_reducible refine (HC.out _).mono ?_); rintro e w2 ⟨rfl, hb⟩; have HB := Lib.hid (HB2.out.trans hb); have HR := Lib.hid (HR2.out.belh hb); clear hb; obtain ⟨r0, r1, r2, r3⟩ := cells4 HR.out; obtain ⟨v0, v1, v2, v3⟩ := frees4 HR.out))
  all_goals first
    | ((with_reducible apply pst_set (k := 4) (g := w.heap.size + 1)); (case hf => rfl); (case hp => rfl); (case hB => exact HR.out); (case hb => exact HB.out); (case hg => omega); rfl)
    | trace_state
set_option maxRecDepth 100000 in
set_option maxHeartbeats 3200000 in
theorem ptg_6 (N A' P : ByteArray) (t : HS) (c : UInt8) (w : World) (h62 : ((c.toNat : Int) == 62) = false)
    (hc : ∀ W, Calls Tryz.prog 137 #[.agg #[.int .i64 6, .string N, .string A', .string P], .int .u8 c.toNat] W (SvV (.agg #[.int .i64 (t.c : Nat), .string (ofL t.n), .string (ofL t.a), .string (ofL t.p)]) W)) :
    Calls Tryz.prog 120 #[stV 6 N A' P, .int .u8 c.toNat] w (SvV t.val w) := by
  unfold stV
  have HC := Lib.hid hc
  clear hc
  have HB2 := Lib.hid ((Bel.alloc w (.cells #[.int .i64 6, .string N, .string A', .string P] 74)).trans (Bel.alloc (w.alloc (.cells #[.int .i64 6, .string N, .string A', .string P] 74)) (.cells #[.int .i64 0, .string ⟨#[]⟩, .string ⟨#[]⟩, .string ⟨#[]⟩] 74)))
  have HR2 := Lib.hid (blk_at1h w (.cells #[.int .i64 6, .string N, .string A', .string P] 74) 74 [.int .i64 0, .string ⟨#[]⟩, .string ⟨#[]⟩, .string ⟨#[]⟩])
  go_enter Tryz.func120, Tryz.ntmps120
  go_wp2_with (go_at_call 137; ((with_reducible refine (HC.out _).mono ?_); rintro e w2 ⟨rfl, hb⟩; have HB := Lib.hid (HB2.out.trans hb); have HR := Lib.hid (HR2.out.belh hb); clear hb; obtain ⟨r0, r1, r2, r3⟩ := cells4 HR.out; obtain ⟨v0, v1, v2, v3⟩ := frees4 HR.out))
  all_goals first
    | ((with_reducible apply pst_set (k := 4) (g := w.heap.size + 1)); (case hf => rfl); (case hp => rfl); (case hB => exact HR.out); (case hb => exact HB.out); (case hg => omega); rfl)
    | trace_state
theorem spc_not {c : UInt8} (h : spcB c = true) : ¬ c = 47 ∧ ¬ c = 61 ∧ ¬ c = 34 ∧ ¬ c = 39 := by
  refine ⟨?_, ?_, ?_, ?_⟩ <;> (rintro rfl; exact absurd h (by decide))
theorem btV_eq (n a : List UInt8) (c : UInt8) (h62 : ¬ c = 62) : btV 1 n a [] c = HS.val (tagS ⟨1, n, a, []⟩ c) := by
  have e34 : ((c.toNat : Int) == 34) = true ↔ c = 34 := by rw [u8_iff, beq_iff_eq]; rfl
  have e39 : ((c.toNat : Int) == 39) = true ↔ c = 39 := by rw [u8_iff, beq_iff_eq]; rfl
  have e47 : ((c.toNat : Int) == 47) = true ↔ c = 47 := by rw [u8_iff, beq_iff_eq]; rfl
  have e61 : ((c.toNat : Int) == 61) = true ↔ c = 61 := by rw [u8_iff, beq_iff_eq]; rfl
  unfold btV tagS
  simp only [e34, e39, e47, e61]
  by_cases hs : spcB c = true
  · obtain ⟨q1, q2, q3, q4⟩ := spc_not hs
    simp [hs, q1, q2, q3, q4, h62, HS.val, stV, ofL_nil]
  · by_cases g1 : c = 47
    · subst g1; simp [hs, HS.val, stV, ofL_nil]
    · by_cases g2 : c = 61
      · subst g2; simp [hs, HS.val, stV, ofL_nil]
      · by_cases g3 : c = 34
        · subst g3; simp [hs, HS.val, stV, ofL_nil]
        · by_cases g4 : c = 39
          · subst g4; simp [hs, HS.val, stV, ofL_nil]
          · simp [hs, g1, g2, g3, g4, h62, HS.val, stV, ofL_nil]
theorem nmV_eq (n a : List UInt8) (c : UInt8) (h62 : ¬ c = 62) : nmV 2 n a [] c = HS.val (tagS ⟨2, n, a, []⟩ c) := by
  have e34 : ((c.toNat : Int) == 34) = true ↔ c = 34 := by rw [u8_iff, beq_iff_eq]; rfl
  have e39 : ((c.toNat : Int) == 39) = true ↔ c = 39 := by rw [u8_iff, beq_iff_eq]; rfl
  have e47 : ((c.toNat : Int) == 47) = true ↔ c = 47 := by rw [u8_iff, beq_iff_eq]; rfl
  have e61 : ((c.toNat : Int) == 61) = true ↔ c = 61 := by rw [u8_iff, beq_iff_eq]; rfl
  unfold nmV tagS
  simp only [e34, e39, e47, e61]
  by_cases hs : spcB c = true
  · obtain ⟨q1, q2, q3, q4⟩ := spc_not hs
    simp [hs, q1, q2, q3, q4, h62, HS.val, stV, ofL_nil]
  · by_cases g1 : c = 47
    · subst g1; simp [hs, HS.val, stV, ofL_nil]
    · by_cases g2 : c = 61
      · subst g2; simp [hs, HS.val, stV, ofL_nil]
      · by_cases g3 : c = 34
        · subst g3; simp [hs, HS.val, stV, ofL_nil]
        · by_cases g4 : c = 39
          · subst g4; simp [hs, HS.val, stV, ofL_nil]
          · simp [hs, g1, g2, g3, g4, h62, HS.val, stV, ofL_nil]
theorem atV_eq (n a : List UInt8) (c : UInt8) (h62 : ¬ c = 62) : atV n a c = HS.val (tagS ⟨3, n, a, []⟩ c) := by
  have e34 : ((c.toNat : Int) == 34) = true ↔ c = 34 := by rw [u8_iff, beq_iff_eq]; rfl
  have e39 : ((c.toNat : Int) == 39) = true ↔ c = 39 := by rw [u8_iff, beq_iff_eq]; rfl
  have e47 : ((c.toNat : Int) == 47) = true ↔ c = 47 := by rw [u8_iff, beq_iff_eq]; rfl
  have e61 : ((c.toNat : Int) == 61) = true ↔ c = 61 := by rw [u8_iff, beq_iff_eq]; rfl
  unfold atV tagS
  simp only [e34, e39, e47, e61]
  by_cases hs : spcB c = true
  · obtain ⟨q1, q2, q3, q4⟩ := spc_not hs
    simp [hs, q1, q2, q3, q4, h62, HS.val, stV, ofL_nil]
  · by_cases g1 : c = 47
    · subst g1; simp [hs, HS.val, stV, ofL_nil]
    · by_cases g2 : c = 61
      · subst g2; simp [hs, HS.val, stV, ofL_nil]
      · by_cases g3 : c = 34
        · subst g3; simp [hs, HS.val, stV, ofL_nil]
        · by_cases g4 : c = 39
          · subst g4; simp [hs, HS.val, stV, ofL_nil]
          · simp [hs, g1, g2, g3, g4, h62, HS.val, stV, ofL_nil]
theorem afV_eq (n a : List UInt8) (c : UInt8) (h62 : ¬ c = 62) : afV 4 n a [] c = HS.val (tagS ⟨4, n, a, []⟩ c) := by
  have e34 : ((c.toNat : Int) == 34) = true ↔ c = 34 := by rw [u8_iff, beq_iff_eq]; rfl
  have e39 : ((c.toNat : Int) == 39) = true ↔ c = 39 := by rw [u8_iff, beq_iff_eq]; rfl
  have e47 : ((c.toNat : Int) == 47) = true ↔ c = 47 := by rw [u8_iff, beq_iff_eq]; rfl
  have e61 : ((c.toNat : Int) == 61) = true ↔ c = 61 := by rw [u8_iff, beq_iff_eq]; rfl
  unfold afV tagS
  simp only [e34, e39, e47, e61]
  by_cases hs : spcB c = true
  · obtain ⟨q1, q2, q3, q4⟩ := spc_not hs
    simp [hs, q1, q2, q3, q4, h62, HS.val, stV, ofL_nil]
  · by_cases g1 : c = 47
    · subst g1; simp [hs, HS.val, stV, ofL_nil]
    · by_cases g2 : c = 61
      · subst g2; simp [hs, HS.val, stV, ofL_nil]
      · by_cases g3 : c = 34
        · subst g3; simp [hs, HS.val, stV, ofL_nil]
        · by_cases g4 : c = 39
          · subst g4; simp [hs, HS.val, stV, ofL_nil]
          · simp [hs, g1, g2, g3, g4, h62, HS.val, stV, ofL_nil]
theorem bvV_eq (n a : List UInt8) (c : UInt8) (h62 : ¬ c = 62) : bvV 5 n a [] c = HS.val (tagS ⟨5, n, a, []⟩ c) := by
  have e34 : ((c.toNat : Int) == 34) = true ↔ c = 34 := by rw [u8_iff, beq_iff_eq]; rfl
  have e39 : ((c.toNat : Int) == 39) = true ↔ c = 39 := by rw [u8_iff, beq_iff_eq]; rfl
  have e47 : ((c.toNat : Int) == 47) = true ↔ c = 47 := by rw [u8_iff, beq_iff_eq]; rfl
  have e61 : ((c.toNat : Int) == 61) = true ↔ c = 61 := by rw [u8_iff, beq_iff_eq]; rfl
  unfold bvV tagS
  simp only [e34, e39, e47, e61]
  by_cases hs : spcB c = true
  · obtain ⟨q1, q2, q3, q4⟩ := spc_not hs
    simp [hs, q1, q2, q3, q4, h62, HS.val, stV, ofL_nil]
  · by_cases g1 : c = 47
    · subst g1; simp [hs, HS.val, stV, ofL_nil]
    · by_cases g2 : c = 61
      · subst g2; simp [hs, HS.val, stV, ofL_nil]
      · by_cases g3 : c = 34
        · subst g3; simp [hs, HS.val, stV, ofL_nil]
        · by_cases g4 : c = 39
          · subst g4; simp [hs, HS.val, stV, ofL_nil]
          · simp [hs, g1, g2, g3, g4, h62, HS.val, stV, ofL_nil]
theorem uqV_eq (n a : List UInt8) (c : UInt8) (h62 : ¬ c = 62) : uqV 6 n a [] c = HS.val (tagS ⟨6, n, a, []⟩ c) := by
  have e34 : ((c.toNat : Int) == 34) = true ↔ c = 34 := by rw [u8_iff, beq_iff_eq]; rfl
  have e39 : ((c.toNat : Int) == 39) = true ↔ c = 39 := by rw [u8_iff, beq_iff_eq]; rfl
  have e47 : ((c.toNat : Int) == 47) = true ↔ c = 47 := by rw [u8_iff, beq_iff_eq]; rfl
  have e61 : ((c.toNat : Int) == 61) = true ↔ c = 61 := by rw [u8_iff, beq_iff_eq]; rfl
  unfold uqV tagS
  simp only [e34, e39, e47, e61]
  by_cases hs : spcB c = true
  · obtain ⟨q1, q2, q3, q4⟩ := spc_not hs
    simp [hs, q1, q2, q3, q4, h62, HS.val, stV, ofL_nil]
  · by_cases g1 : c = 47
    · subst g1; simp [hs, HS.val, stV, ofL_nil]
    · by_cases g2 : c = 61
      · subst g2; simp [hs, HS.val, stV, ofL_nil]
      · by_cases g3 : c = 34
        · subst g3; simp [hs, HS.val, stV, ofL_nil]
        · by_cases g4 : c = 39
          · subst g4; simp [hs, HS.val, stV, ofL_nil]
          · simp [hs, g1, g2, g3, g4, h62, HS.val, stV, ofL_nil]
/-- Tags. -/
theorem ptagS_c (k : Nat) (h1 : 1 ≤ k) (h6 : k ≤ 6) (n a : List UInt8) (hn : n.length ≤ 100000) (ha : a.length ≤ 100000) (c : UInt8) (w : World) : Calls Tryz.prog 120 #[stV (k : Nat) (ofL n) (ofL a) (ofL []), .int .u8 c.toNat] w (SvP (tagS ⟨k, n, a, []⟩ c) w) := by
  by_cases h62 : c = 62
  · have e : tagS ⟨k, n, a, []⟩ c = openS n := by unfold tagS; rw [if_pos ⟨h62, h6⟩]
    rw [e]
    exact ptg_open _ _ _ _ _ c w (ct h62 62 rfl) fun W => popen_c _ n _ _ W
  · have hf : ((c.toNat : Int) == 62) = false := cf h62 62 rfl
    have hk : k = 1 ∨ k = 2 ∨ k = 3 ∨ k = 4 ∨ k = 5 ∨ k = 6 := by omega
    rcases hk with rfl | rfl | rfl | rfl | rfl | rfl
    · exact ptg_1 _ _ _ _ c w hf fun W => by have h := pbetween_c 1 n a [] c W; rw [btV_eq n a c h62] at h; exact h
    · exact ptg_2 _ _ _ _ c w hf fun W => by have h := pname_c 2 n a [] c W hn; rw [nmV_eq n a c h62] at h; exact h
    · exact ptg_3 _ _ _ _ c w hf fun W => by have h := pattrname_c 3 n a [] c W ha; rw [atV_eq n a c h62] at h; exact h
    · exact ptg_4 _ _ _ _ c w hf fun W => by have h := pafter_c 4 n a [] c W ha; rw [afV_eq n a c h62] at h; exact h
    · exact ptg_5 _ _ _ _ c w hf fun W => by have h := pbefore_c 5 n a [] c W ha; rw [bvV_eq n a c h62] at h; exact h
    · exact ptg_6 _ _ _ _ c w hf fun W => by have h := punq_c 6 n a [] c W; rw [uqV_eq n a c h62] at h; exact h
end Go.Proofs.YtpcapmdfjmpdiaaGreatDoor
