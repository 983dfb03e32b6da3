/-
  Contracts: the program of layer 15: text, comments.
-/
import Derived.Test.YtpcapmdfjmpdiaaGreatDoorZPi15
namespace Go.Proofs.YtpcapmdfjmpdiaaGreatDoor
open Go.RowKit Go.BigFrame
set_option linter.unusedVariables false
set_option linter.unusedSimpArgs false
set_option maxRecDepth 100000

/-- 'textS' behind '<', in the words of a walk. -/
theorem less_w (c : UInt8) : textS [60] c = if ltrB c = true then ⟨2, addL [] c, [], []⟩ else if ((c.toNat : Int) == 47) = true then ⟨0, [], [], [60, 47]⟩ else if ((c.toNat : Int) == 33) = true then ⟨0, [], [], [60, 33]⟩ else if ((c.toNat : Int) == 60) = true then ⟨0, [], [], [60]⟩ else s0 0 := by
  have hc : ∀ k : UInt8, c = k ↔ ((c.toNat : Int) == (k.toNat : Int)) = true := fun k => by rw [u8_iff, beq_iff_eq]
  have h47 : c = 47 ↔ ((c.toNat : Int) == 47) = true := hc 47
  have h33 : c = 33 ↔ ((c.toNat : Int) == 33) = true := hc 33
  have h60 : c = 60 ↔ ((c.toNat : Int) == 60) = true := hc 60
  simp only [← h47, ← h33, ← h60]
  unfold textS
  rw [if_pos rfl]
  by_cases h1 : c = 47
  · subst h1; rfl
  · by_cases h2 : c = 33
    · subst h2; rfl
    · simp [h1, h2]
theorem slash_w (c : UInt8) : textS [60, 47] c = if ltrB c = true then s0 15 else if ((c.toNat : Int) == 60) = true then ⟨0, [], [], [60]⟩ else s0 0 := by
  have h60 : c = 60 ↔ ((c.toNat : Int) == 60) = true := by rw [u8_iff, beq_iff_eq]; rfl
  simp only [← h60]
  rfl
/-- 'stepLessMark' as plain data: 't' behind a hyphen. -/
def markS (t : HS) (c : UInt8) : HS := if c = 45 then t else if c = 62 then s0 0 else s0 14
theorem mark_w (t : HS) (c : UInt8) : markS t c = if ((c.toNat : Int) == 45) = true then t else if ((c.toNat : Int) == 62) = true then s0 0 else s0 14 := by
  have h45 : c = 45 ↔ ((c.toNat : Int) == 45) = true := by rw [u8_iff, beq_iff_eq]; rfl
  have h62 : c = 62 ↔ ((c.toNat : Int) == 62) = true := by rw [u8_iff, beq_iff_eq]; rfl
  unfold markS
  simp only [← h45, ← h62]
set_option maxRecDepth 100000 in
set_option maxHeartbeats 3200000 in
theorem pless_c (c : UInt8) (w : World) : Calls Tryz.prog 129 #[.agg #[.int .i64 0, .string ⟨#[]⟩, .string ⟨#[]⟩, .string ⟨#[60]⟩], .int .u8 c.toNat] w (SvP (textS [60] c) w) := by
  have HB2 := Lib.hid ((Bel.alloc w (.cells #[.int .i64 0, .string ⟨#[]⟩, .string ⟨#[]⟩, .string ⟨#[60]⟩] 74)).trans (Bel.alloc (w.alloc (.cells #[.int .i64 0, .string ⟨#[]⟩, .string ⟨#[]⟩, .string ⟨#[60]⟩] 74)) (.cells #[.int .i64 0, .string ⟨#[]⟩, .string ⟨#[]⟩, .string ⟨#[]⟩] 74)))
  have HR2 := Lib.hid (blk_at1h w (.cells #[.int .i64 0, .string ⟨#[]⟩, .string ⟨#[]⟩, .string ⟨#[60]⟩] 74) 74 [.int .i64 0, .string ⟨#[]⟩, .string ⟨#[]⟩, .string ⟨#[]⟩])
  have HAD := Lib.hid (fun W => padd_c [] c W (by simp))
  rw [ofL_nil] at HAD
  go_enter Tryz.func129, Tryz.ntmps129
  go_wp2_with (first
    | (go_at_call 148; ((with_reducible refine (pletter_c c _).mono ?_); rintro e w1 ⟨rfl, rfl⟩))
    | (go_at_call 149; ((with_reducible refine (HAD.out _).mono ?_); rintro e w2 ⟨rfl, hb⟩; have HB := Lib.hid (HB2.out.trans hb); have HR := Lib.hid (HR2.out.belh hb); clear hb; obtain ⟨r0, r1, r2, r3⟩ := cells4 HR.out; obtain ⟨v0, v1, v2, v3⟩ := frees4 HR.out)))
  all_goals first
    | ((with_reducible apply pst_new (k := 4) (g := w.heap.size + 1)); (case hf => rfl); (case hp => rfl); (case hg => simp); (case hb => exact (Bel.alloc _ _).trans (Bel.alloc _ _)))
    | ((with_reducible apply pst_set (k := 4) (g := w.heap.size + 1)); (case hf => rfl); (case hp => rfl); (case hB => exact HR.out); (case hb => exact HB.out); (case hg => omega))
  all_goals rw [less_w]
  all_goals first
    | (simp only [*, if_true, if_false, Bool.false_eq_true]; rfl)
    | trace_state
set_option maxRecDepth 100000 in
set_option maxHeartbeats 3200000 in
theorem pslash_c (c : UInt8) (w : World) : Calls Tryz.prog 130 #[.int .u8 c.toNat] w (SvP (textS [60, 47] c) w) := by
  go_enter Tryz.func130, Tryz.ntmps130
  go_wp2_with (go_at_call 148; ((with_reducible refine (pletter_c c _).mono ?_); rintro e w1 ⟨rfl, rfl⟩))
  all_goals first
    | ((with_reducible apply pst_new (k := 2) (g := w.heap.size)); (case hf => rfl); (case hp => rfl); (case hg => rfl); (case hb => exact (Bel.alloc _ _)))
  all_goals rw [slash_w]
  all_goals first
    | (simp only [*, if_true, if_false, Bool.false_eq_true]; rfl)
    | trace_state
set_option maxRecDepth 100000 in
set_option maxHeartbeats 3200000 in
theorem pmark_c (t : HS) (c : UInt8) (w : World) : Calls Tryz.prog 131 #[.agg #[.int .i64 (t.c : Nat), .string (ofL t.n), .string (ofL t.a), .string (ofL t.p)], .int .u8 c.toNat] w (SvP (markS t c) w) := by
  go_enter Tryz.func131, Tryz.ntmps131
  go_wp2_with fail
  all_goals first
    | ((with_reducible apply pst_new (k := 4) (g := w.heap.size + 1)); (case hf => rfl); (case hp => rfl); (case hg => simp); (case hb => exact (Bel.alloc _ _).trans (Bel.alloc _ _)))
  all_goals rw [mark_w]
  all_goals first
    | (simp only [*, if_true, if_false, Bool.false_eq_true]; rfl)
    | trace_state
set_option maxRecDepth 100000 in
set_option maxHeartbeats 3200000 in
theorem pcomment_c (k : Int) (n a : ByteArray) (p : List UInt8) (c : UInt8) (w : World) : Calls Tryz.prog 119 #[stV k n a (ofL p), .int .u8 c.toNat] w (SvP (commentS p c) w) := by
  unfold stV
  go_enter Tryz.func119, Tryz.ntmps119
  go_wp2_with fail
  all_goals refine pst_new rfl rfl (by simp) ?_ ((Bel.alloc _ _).trans (Bel.alloc _ _))
  all_goals simp_all [ofL_list, u8_iff, commentS, HS.val, stV, s0, ofL]
set_option maxRecDepth 100000 in
set_option maxHeartbeats 3200000 in
theorem ptext_0 (t : HS) (c : UInt8) (w : World) 
    (hc : ∀ W, Calls Tryz.prog 118 #[.agg #[.int .i64 0, .string ⟨#[]⟩, .string ⟨#[]⟩, .string ⟨#[]⟩], .int .u8 c.toNat, .int .u8 60, .agg #[.int .i64 0, .string ⟨#[]⟩, .string ⟨#[]⟩, .string ⟨#[60]⟩]] W (SvV (.agg #[.int .i64 (t.c : Nat), .string (ofL t.n), .string (ofL t.a), .string (ofL t.p)]) W)) :
    Calls Tryz.prog 117 #[stV 0 ⟨#[]⟩ ⟨#[]⟩ ⟨#[]⟩, .int .u8 c.toNat] w (SvV t.val w) := by
  unfold stV
  have HC := Lib.hid hc
  clear hc
  have HB2 := Lib.hid ((Bel.alloc w (.cells #[.int .i64 0, .string ⟨#[]⟩, .string ⟨#[]⟩, .string ⟨#[]⟩] 74)).trans (Bel.alloc (w.alloc (.cells #[.int .i64 0, .string ⟨#[]⟩, .string ⟨#[]⟩, .string ⟨#[]⟩] 74)) (.cells #[.int .i64 0, .string ⟨#[]⟩, .string ⟨#[]⟩, .string ⟨#[]⟩] 74)))
  have HR2 := Lib.hid (blk_at1h w (.cells #[.int .i64 0, .string ⟨#[]⟩, .string ⟨#[]⟩, .string ⟨#[]⟩] 74) 74 [.int .i64 0, .string ⟨#[]⟩, .string ⟨#[]⟩, .string ⟨#[]⟩])
  go_enter Tryz.func117, Tryz.ntmps117
  go_wp2_with (go_at_call 118; ((with_reducible refine (HC.out _).mono ?_); rintro e w2 ⟨rfl, hb⟩; have HB := Lib.hid (HB2.out.trans hb); have HR := Lib.hid (HR2.out.belh hb); clear hb; obtain ⟨r0, r1, r2, r3⟩ := cells4 HR.out; obtain ⟨v0, v1, v2, v3⟩ := frees4 HR.out))
  all_goals first
    | ((with_reducible apply pst_set (k := 4) (g := w.heap.size + 1)); (case hf => rfl); (case hp => rfl); (case hB => exact HR.out); (case hb => exact HB.out); (case hg => omega); rfl)
    | trace_state
set_option maxRecDepth 100000 in
set_option maxHeartbeats 3200000 in
theorem ptext_1 (t : HS) (c : UInt8) (w : World) 
    (hc : ∀ W, Calls Tryz.prog 129 #[.agg #[.int .i64 0, .string ⟨#[]⟩, .string ⟨#[]⟩, .string ⟨#[60]⟩], .int .u8 c.toNat] W (SvV (.agg #[.int .i64 (t.c : Nat), .string (ofL t.n), .string (ofL t.a), .string (ofL t.p)]) W)) :
    Calls Tryz.prog 117 #[stV 0 ⟨#[]⟩ ⟨#[]⟩ ⟨#[60]⟩, .int .u8 c.toNat] w (SvV t.val w) := by
  unfold stV
  have HC := Lib.hid hc
  clear hc
  have HB2 := Lib.hid ((Bel.alloc w (.cells #[.int .i64 0, .string ⟨#[]⟩, .string ⟨#[]⟩, .string ⟨#[60]⟩] 74)).trans (Bel.alloc (w.alloc (.cells #[.int .i64 0, .string ⟨#[]⟩, .string ⟨#[]⟩, .string ⟨#[60]⟩] 74)) (.cells #[.int .i64 0, .string ⟨#[]⟩, .string ⟨#[]⟩, .string ⟨#[]⟩] 74)))
  have HR2 := Lib.hid (blk_at1h w (.cells #[.int .i64 0, .string ⟨#[]⟩, .string ⟨#[]⟩, .string ⟨#[60]⟩] 74) 74 [.int .i64 0, .string ⟨#[]⟩, .string ⟨#[]⟩, .string ⟨#[]⟩])
  go_enter Tryz.func117, Tryz.ntmps117
  go_wp2_with (go_at_call 129; ((with_reducible refine (HC.out _).mono ?_); rintro e w2 ⟨rfl, hb⟩; have HB := Lib.hid (HB2.out.trans hb); have HR := Lib.hid (HR2.out.belh hb); clear hb; obtain ⟨r0, r1, r2, r3⟩ := cells4 HR.out; obtain ⟨v0, v1, v2, v3⟩ := frees4 HR.out))
  all_goals first
    | ((with_reducible apply pst_set (k := 4) (g := w.heap.size + 1)); (case hf => rfl); (case hp => rfl); (case hB => exact HR.out); (case hb => exact HB.out); (case hg => omega); rfl)
    | trace_state
set_option maxRecDepth 100000 in
set_option maxHeartbeats 3200000 in
theorem ptext_2 (t : HS) (c : UInt8) (w : World) 
    (hc : ∀ W, Calls Tryz.prog 130 #[.int .u8 c.toNat] W (SvV (.agg #[.int .i64 (t.c : Nat), .string (ofL t.n), .string (ofL t.a), .string (ofL t.p)]) W)) :
    Calls Tryz.prog 117 #[stV 0 ⟨#[]⟩ ⟨#[]⟩ ⟨#[60, 47]⟩, .int .u8 c.toNat] w (SvV t.val w) := by
  unfold stV
  have HC := Lib.hid hc
  clear hc
  have HB2 := Lib.hid ((Bel.alloc w (.cells #[.int .i64 0, .string ⟨#[]⟩, .string ⟨#[]⟩, .string ⟨#[60, 47]⟩] 74)).trans (Bel.alloc (w.alloc (.cells #[.int .i64 0, .string ⟨#[]⟩, .string ⟨#[]⟩, .string ⟨#[60, 47]⟩] 74)) (.cells #[.int .i64 0, .string ⟨#[]⟩, .string ⟨#[]⟩, .string ⟨#[]⟩] 74)))
  have HR2 := Lib.hid (blk_at1h w (.cells #[.int .i64 0, .string ⟨#[]⟩, .string ⟨#[]⟩, .string ⟨#[60, 47]⟩] 74) 74 [.int .i64 0, .string ⟨#[]⟩, .string ⟨#[]⟩, .string ⟨#[]⟩])
  go_enter Tryz.func117, Tryz.ntmps117
  go_wp2_with (go_at_call 130; ((with_reducible refine (HC.out _).mono ?_); rintro e w2 ⟨rfl, hb⟩; have HB := Lib.hid (HB2.out.trans hb); have HR := Lib.hid (HR2.out.belh hb); clear hb; obtain ⟨r0, r1, r2, r3⟩ := cells4 HR.out; obtain ⟨v0, v1, v2, v3⟩ := frees4 HR.out))
  all_goals first
    | ((with_reducible apply pst_set (k := 4) (g := w.heap.size + 1)); (case hf => rfl); (case hp => rfl); (case hB => exact HR.out); (case hb => exact HB.out); (case hg => omega); rfl)
    | trace_state
set_option maxRecDepth 100000 in
set_option maxHeartbeats 3200000 in
theorem ptext_3 (t : HS) (c : UInt8) (w : World) 
    (hc : ∀ W, Calls Tryz.prog 131 #[.agg #[.int .i64 0, .string ⟨#[]⟩, .string ⟨#[]⟩, .string ⟨#[60, 33, 45]⟩], .int .u8 c.toNat] W (SvV (.agg #[.int .i64 (t.c : Nat), .string (ofL t.n), .string (ofL t.a), .string (ofL t.p)]) W)) :
    Calls Tryz.prog 117 #[stV 0 ⟨#[]⟩ ⟨#[]⟩ ⟨#[60, 33]⟩, .int .u8 c.toNat] w (SvV t.val w) := by
  unfold stV
  have HC := Lib.hid hc
  clear hc
  have HB2 := Lib.hid ((Bel.alloc w (.cells #[.int .i64 0, .string ⟨#[]⟩, .string ⟨#[]⟩, .string ⟨#[60, 33]⟩] 74)).trans (Bel.alloc (w.alloc (.cells #[.int .i64 0, .string ⟨#[]⟩, .string ⟨#[]⟩, .string ⟨#[60, 33]⟩] 74)) (.cells #[.int .i64 0, .string ⟨#[]⟩, .string ⟨#[]⟩, .string ⟨#[]⟩] 74)))
  have HR2 := Lib.hid (blk_at1h w (.cells #[.int .i64 0, .string ⟨#[]⟩, .string ⟨#[]⟩, .string ⟨#[60, 33]⟩] 74) 74 [.int .i64 0, .string ⟨#[]⟩, .string ⟨#[]⟩, .string ⟨#[]⟩])
  go_enter Tryz.func117, Tryz.ntmps117
  go_wp2_with (go_at_call 131; ((with_reducible refine (HC.out _).mono ?_); rintro e w2 ⟨rfl, hb⟩; have HB := Lib.hid (HB2.out.trans hb); have HR := Lib.hid (HR2.out.belh hb); clear hb; obtain ⟨r0, r1, r2, r3⟩ := cells4 HR.out; obtain ⟨v0, v1, v2, v3⟩ := frees4 HR.out))
  all_goals first
    | ((with_reducible apply pst_set (k := 4) (g := w.heap.size + 1)); (case hf => rfl); (case hp => rfl); (case hB => exact HR.out); (case hb => exact HB.out); (case hg => omega); rfl)
    | trace_state
set_option maxRecDepth 100000 in
set_option maxHeartbeats 3200000 in
theorem ptext_4 (t : HS) (c : UInt8) (w : World) 
    (hc : ∀ W, Calls Tryz.prog 131 #[.agg #[.int .i64 13, .string ⟨#[]⟩, .string ⟨#[]⟩, .string ⟨#[]⟩], .int .u8 c.toNat] W (SvV (.agg #[.int .i64 (t.c : Nat), .string (ofL t.n), .string (ofL t.a), .string (ofL t.p)]) W)) :
    Calls Tryz.prog 117 #[stV 0 ⟨#[]⟩ ⟨#[]⟩ ⟨#[60, 33, 45]⟩, .int .u8 c.toNat] w (SvV t.val w) := by
  unfold stV
  have HC := Lib.hid hc
  clear hc
  have HB2 := Lib.hid ((Bel.alloc w (.cells #[.int .i64 0, .string ⟨#[]⟩, .string ⟨#[]⟩, .string ⟨#[60, 33, 45]⟩] 74)).trans (Bel.alloc (w.alloc (.cells #[.int .i64 0, .string ⟨#[]⟩, .string ⟨#[]⟩, .string ⟨#[60, 33, 45]⟩] 74)) (.cells #[.int .i64 0, .string ⟨#[]⟩, .string ⟨#[]⟩, .string ⟨#[]⟩] 74)))
  have HR2 := Lib.hid (blk_at1h w (.cells #[.int .i64 0, .string ⟨#[]⟩, .string ⟨#[]⟩, .string ⟨#[60, 33, 45]⟩] 74) 74 [.int .i64 0, .string ⟨#[]⟩, .string ⟨#[]⟩, .string ⟨#[]⟩])
  go_enter Tryz.func117, Tryz.ntmps117
  go_wp2_with (go_at_call 131; ((with_reducible refine (HC.out _).mono ?_); rintro e w2 ⟨rfl, hb⟩; have HB := Lib.hid (HB2.out.trans hb); have HR := Lib.hid (HR2.out.belh hb); clear hb; obtain ⟨r0, r1, r2, r3⟩ := cells4 HR.out; obtain ⟨v0, v1, v2, v3⟩ := frees4 HR.out))
  all_goals first
    | ((with_reducible apply pst_set (k := 4) (g := w.heap.size + 1)); (case hf => rfl); (case hp => rfl); (case hB => exact HR.out); (case hb => exact HB.out); (case hg => omega); rfl)
    | trace_state
/-- Text. -/
theorem ptext_c (p : List UInt8) (hp : p = [] ∨ p = [60] ∨ p = [60, 47] ∨ p = [60, 33] ∨ p = [60, 33, 45]) (c : UInt8) (w : World) : Calls Tryz.prog 117 #[stV 0 ⟨#[]⟩ ⟨#[]⟩ (ofL p), .int .u8 c.toNat] w (SvP (textS p c) w) := by
  rcases hp with rfl | rfl | rfl | rfl | rfl
  · refine ptext_0 _ c w fun W => ?_
    have h := pstay_c 0 0 ⟨#[]⟩ ⟨#[]⟩ ⟨#[]⟩ ⟨#[]⟩ ⟨#[]⟩ ⟨#[60]⟩ c 60 W
    have e : (if c = 60 then stV 0 ⟨#[]⟩ ⟨#[]⟩ ⟨#[60]⟩ else stV 0 ⟨#[]⟩ ⟨#[]⟩ ⟨#[]⟩) = HS.val (textS [] c) := by
      show _ = HS.val (if c = 60 then ⟨0, [], [], [60]⟩ else s0 0)
      split <;> rfl
    rw [e] at h
    exact h
  · exact ptext_1 _ c w fun W => pless_c c W
  · exact ptext_2 _ c w fun W => pslash_c c W
  · exact ptext_3 _ c w fun W => pmark_c ⟨0, [], [], [60, 33, 45]⟩ c W
  · exact ptext_4 _ c w fun W => pmark_c (s0 13) c W
end Go.Proofs.YtpcapmdfjmpdiaaGreatDoor
