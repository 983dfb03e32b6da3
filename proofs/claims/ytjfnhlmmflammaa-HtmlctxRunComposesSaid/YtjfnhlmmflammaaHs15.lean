/-
  Contracts: the reference of layer 15: text.
-/
import Derived.Test.YtjfnhlmmflammaaHr15
namespace Go.Proofs.Ytjfnhlmmflammaa
open Go.RowKit Go.BigFrame
set_option linter.unusedVariables false
set_option linter.unusedSimpArgs false

/-- 'textS' in the words of a walk. -/
theorem textS_w (p : List UInt8) (c : UInt8) : textS p c =
    if ((ofL p).toList == [60]) = true then
      if ltrB c = true then ⟨2, addL [] c, [], []⟩
      else if ((c.toNat : Int) == 47) = true ∨ ((c.toNat : Int) == 33) = true then ⟨0, [], [], [60, c]⟩
      else if ((c.toNat : Int) == 60) = true then ⟨0, [], [], [60]⟩ else s0 0
    else if ((ofL p).toList == [60, 47]) = true then
      if ltrB c = true then s0 15
      else if ((c.toNat : Int) == 60) = true then ⟨0, [], [], [60]⟩ else s0 0
    else if ((ofL p).toList == [60, 33]) = true then
      if ((c.toNat : Int) == 45) = true then ⟨0, [], [], [60, 33, 45]⟩ else if ((c.toNat : Int) == 62) = true then s0 0 else s0 14
    else if ((ofL p).toList == [60, 33, 45]) = true then
      if ((c.toNat : Int) == 45) = true then s0 13 else if ((c.toNat : Int) == 62) = true then s0 0 else s0 14
    else if ((c.toNat : Int) == 60) = true then ⟨0, [], [], [60]⟩ else s0 0 := by
  have hc : ∀ k : UInt8, c = k ↔ ((c.toNat : Int) == (k.toNat : Int)) = true := fun k => by rw [u8_iff, beq_iff_eq]
  have h47 : c = 47 ↔ ((c.toNat : Int) == 47) = true := hc 47
  have h33 : c = 33 ↔ ((c.toNat : Int) == 33) = true := hc 33
  have h45 : c = 45 ↔ ((c.toNat : Int) == 45) = true := hc 45
  have h60 : c = 60 ↔ ((c.toNat : Int) == 60) = true := hc 60
  have h62 : c = 62 ↔ ((c.toNat : Int) == 62) = true := hc 62
  simp only [ofL_list, beq_iff_eq (a := p)]
  unfold textS
  simp only [← h47, ← h33, ← h45, ← h60, ← h62]
theorem cat60 (c : UInt8) : Value.agg #[.int .i64 0, .string ⟨#[]⟩, .string ⟨#[]⟩, .string (⟨#[60]⟩ ++ ⟨#[c]⟩)] = HS.val ⟨0, [], [], [60, c]⟩ := by
  rw [show (⟨#[60]⟩ ++ ⟨#[c]⟩ : ByteArray) = ofL ([60] ++ [c]) from ofL_snoc [60] c]
  rfl
set_option maxRecDepth 100000 in
set_option maxHeartbeats 3200000 in
theorem rtext_c (k : Int) (n a : ByteArray) (p : List UInt8) (c : UInt8) (w : World) : Calls Try.prog 20 #[stV k n a (ofL p), .int .u8 c.toNat] w (SvP (textS p c) w) := by
  unfold stV
  have HZ0 := Lib.hid (blk_at1h w (.cells #[.int .i64 k, .string n, .string a, .string (ofL p)] 25) 25 [.int .i64 0, .string ⟨#[]⟩, .string ⟨#[]⟩, .string ⟨#[]⟩])
  have HB0 := Lib.hid ((Bel.alloc w (.cells #[.int .i64 k, .string n, .string a, .string (ofL p)] 25)).trans (Bel.alloc (w.alloc (.cells #[.int .i64 k, .string n, .string a, .string (ofL p)] 25)) (.cells #[.int .i64 0, .string ⟨#[]⟩, .string ⟨#[]⟩, .string ⟨#[]⟩] 25)))
  have HAD := Lib.hid (fun W => radd_c [] c W (by simp))
  rw [ofL_nil] at HAD
  have hoc := one_str c ((w.alloc (.cells #[.int .i64 k, .string n, .string a, .string (ofL p)] 25)).alloc (.cells #[.int .i64 0, .string ⟨#[]⟩, .string ⟨#[]⟩, .string ⟨#[]⟩] 25))
  have ho47 := one_str 47 ((w.alloc (.cells #[.int .i64 k, .string n, .string a, .string (ofL p)] 25)).alloc (.cells #[.int .i64 0, .string ⟨#[]⟩, .string ⟨#[]⟩, .string ⟨#[]⟩] 25))
  rw [show (((w.alloc (.cells #[.int .i64 k, .string n, .string a, .string (ofL p)] 25)).alloc (.cells #[.int .i64 0, .string ⟨#[]⟩, .string ⟨#[]⟩, .string ⟨#[]⟩] 25))).heap.size = w.heap.size + 1 + 1 by simp] at hoc ho47
  rw [show ((47 : UInt8).toNat : Int) = 47 from rfl] at ho47
  go_enter Try.func20, Try.ntmps20
  go_wp2_with (first
    | (go_at_call 39; ((with_reducible refine (rletter_c c _).mono ?_); rintro e w1 ⟨rfl, rfl⟩))
    | (go_at_call 40; ((with_reducible refine (HAD.out _).mono ?_); rintro e w2 ⟨rfl, hb⟩; have HB2 := Lib.hid (HB0.out.trans hb); have HZ2 := Lib.hid (HZ0.out.belh hb); obtain ⟨z0, z1, z2, z3⟩ := cells4 HZ2.out; obtain ⟨f0, f1, f2, f3⟩ := frees4 HZ2.out; clear hb)))
  all_goals first
    | ((with_reducible apply st_new (k := 4) (g := w.heap.size + 1)); (case hf => rfl); (case hp => rfl); (case hg => simp); (case hb => exact (Bel.alloc _ _).trans (Bel.alloc _ _)))
    | ((with_reducible apply st_mid (k := 4) (g := w.heap.size + 1)); (case hf => rfl); (case hp => rfl); (case hg => simp); (case hb => exact ((Bel.alloc _ _).trans (Bel.alloc _ _)).trans (Bel.alloc _ _)))
    | ((with_reducible apply st_set (k := 4) (g := w.heap.size + 1) (hB := HZ2.out) (hb := HB2.out)); (case hf => rfl); (case hp => rfl); (case hg => omega))
  all_goals rw [textS_w]
  all_goals first
    | (simp only [*, if_true, if_false, Bool.false_eq_true, or_self]; rfl)
    | (simp only [*, if_true, if_false, Bool.false_eq_true, or_self, false_or, or_false]; exact cat60 c)
    | (have e47 := (u8_iff c 47).2 ‹_›; subst e47; simp only [*, if_true, if_false, Bool.false_eq_true, or_self]; exact cat60 47)
    | trace_state
end Go.Proofs.Ytjfnhlmmflammaa
