/-
  Contract: alive of layer 15; comparing states.
-/
import Derived.Test.YtjfnhlmmflammaaPh15
import Derived.Test.YtjfnhlmmflammaaSe15
import Derived.Laws.StructEq
namespace Go.Proofs.Ytjfnhlmmflammaa
open Go.RowKit Go.BigFrame
set_option linter.unusedVariables false
set_option linter.unusedSimpArgs false

/-- A run from the start. -/
theorem run0 (l : List UInt8) (t : HS) (ht : runS (s0 0) l = t) (hl : l.length ≤ 100000) (w : World) : Calls Try.prog 13 #[.agg #[.int .i64 0, .string ⟨#[]⟩, .string ⟨#[]⟩, .string ⟨#[]⟩], .string (ofL l)] w (SvV (.agg #[.int .i64 (t.c : Nat), .string (ofL t.n), .string (ofL t.a), .string (ofL t.p)]) w) := by
  have h := prun_c (s0 0) Inv.init (ofL l) hl w
  rw [show toL (ofL l) = l from by simp [toL, ofL], ht] at h
  exact h
def aS : HS := ⟨9, [97], [], []⟩
def bS : HS := ⟨18, [], [], []⟩
def cS : HS := ⟨0, [], [], [60]⟩
set_option maxRecDepth 100000 in
set_option maxHeartbeats 3200000 in
theorem alive_c (w : World) : Calls Try.prog 7 #[] w fun e w' => e = .returned (.bool true) ∧ Bel w w' := by
  have HA : Hid (∀ W, Calls Try.prog 13 #[.agg #[.int .i64 0, .string ⟨#[]⟩, .string ⟨#[]⟩, .string ⟨#[]⟩], .string ⟨#[60, 97, 32, 104, 114, 101, 102, 61, 34]⟩] W (SvV (.agg #[.int .i64 9, .string ⟨#[97]⟩, .string ⟨#[]⟩, .string ⟨#[]⟩]) W)) := Lib.hid (fun W => run0 [60, 97, 32, 104, 114, 101, 102, 61, 34] aS rfl (by decide) W)
  have HB : Hid (∀ W, Calls Try.prog 13 #[.agg #[.int .i64 0, .string ⟨#[]⟩, .string ⟨#[]⟩, .string ⟨#[]⟩], .string ⟨#[60, 115, 99, 114, 105, 112, 116, 62, 120, 32, 61, 32, 39, 121]⟩] W (SvV (.agg #[.int .i64 18, .string ⟨#[]⟩, .string ⟨#[]⟩, .string ⟨#[]⟩]) W)) := Lib.hid (fun W => run0 [60, 115, 99, 114, 105, 112, 116, 62, 120, 32, 61, 32, 39, 121] bS rfl (by decide) W)
  have HC : Hid (∀ W, Calls Try.prog 13 #[.agg #[.int .i64 0, .string ⟨#[]⟩, .string ⟨#[]⟩, .string ⟨#[]⟩], .string ⟨#[97, 60]⟩] W (SvV (.agg #[.int .i64 0, .string ⟨#[]⟩, .string ⟨#[]⟩, .string ⟨#[60]⟩]) W)) := Lib.hid (fun W => run0 [97, 60] cS rfl (by decide) W)
  have HE : Hid (∀ W, Calls Try.prog 10 #[.agg #[.int .i64 0, .string ⟨#[]⟩, .string ⟨#[]⟩, .string ⟨#[60]⟩]] W fun e w' => e = .returned (.tuple #[.int .i64 0, .bool false]) ∧ Bel W w') := Lib.hid (fun W => pesc_c cS (inv_part (by simp)) W)
  have HF : Hid (∀ W, Calls Try.prog 10 #[.agg #[.int .i64 18, .string ⟨#[]⟩, .string ⟨#[]⟩, .string ⟨#[]⟩]] W fun e w' => e = .returned (.tuple #[.int .i64 3, .bool true]) ∧ Bel W w') := Lib.hid (fun W => pesc_c bS (inv_raw (by decide) (by decide) (.inl rfl)) W)
  have hq : ∀ W, (binOp .eql 24 (.agg #[.int .i64 9, .string ⟨#[97]⟩, .string ⟨#[]⟩, .string ⟨#[]⟩]) (.agg #[.int .i64 9, .string ⟨#[97]⟩, .string ⟨#[]⟩, .string ⟨#[]⟩])).run Try.prog W = .ok (.bool true) W := fun W => (st_eql aS aS W).trans (by rw [(stB_iff _ _).2 rfl])
  have hgd := st_guard
  go_enter Try.func7, Try.ntmps7
  go_wp2_with (first
    | (go_at_call 13; ((with_reducible refine (HA.out _).mono ?_); rintro e w1 ⟨rfl, hb1⟩; have HB1 := Lib.hid (hb1.trans (Bel.alloc w1 (.cells #[.int .i64 9, .string ⟨#[97]⟩, .string ⟨#[]⟩, .string ⟨#[]⟩] 24))); have HK1 := Lib.hid (Blk.new w1 24 [.int .i64 9, .string ⟨#[97]⟩, .string ⟨#[]⟩, .string ⟨#[]⟩]); clear hb1))
    | (go_at_call 13; ((with_reducible refine (HB.out _).mono ?_); rintro e w2 ⟨rfl, hb2⟩; have HB2 := Lib.hid ((HB1.out.trans hb2).trans (Bel.alloc w2 (.cells #[.int .i64 18, .string ⟨#[]⟩, .string ⟨#[]⟩, .string ⟨#[]⟩] 24))); have HK2 := Lib.hid ((HK1.out.belh hb2).alloc (.cells #[.int .i64 18, .string ⟨#[]⟩, .string ⟨#[]⟩, .string ⟨#[]⟩] 24)); have HL2 := Lib.hid (Blk.new w2 24 [.int .i64 18, .string ⟨#[]⟩, .string ⟨#[]⟩, .string ⟨#[]⟩]); clear hb2))
    | (go_at_call 13; ((with_reducible refine (HC.out _).mono ?_); rintro e w3 ⟨rfl, hb3⟩; have HB3 := Lib.hid (HB2.out.trans hb3); have HK3 := Lib.hid (HK2.out.belh hb3); have HL3 := Lib.hid (HL2.out.belh hb3); clear hb3))
    | (go_at_call 10; ((with_reducible refine (HE.out _).mono ?_); rintro e w4 ⟨rfl, hb4⟩; have HB4 := Lib.hid (HB3.out.trans hb4); have HK4 := Lib.hid (HK3.out.belh hb4); have HL4 := Lib.hid (HL3.out.belh hb4); clear hb4; obtain ⟨l0, l1, l2, l3⟩ := cells4 HL4.out))
    | (go_at_call 10; ((with_reducible refine (HF.out _).mono ?_); rintro e w5 ⟨rfl, hb5⟩; have HB5 := Lib.hid (HB4.out.trans hb5); have HK5 := Lib.hid (HK4.out.belh hb5); have HL5 := Lib.hid (HL4.out.belh hb5); clear hb5; obtain ⟨m0, m1, m2, m3⟩ := cells4 HL5.out; obtain ⟨n0, n1, n2, n3⟩ := cells4 HK5.out)))
  all_goals go_ret
  all_goals exact ⟨rfl, HB5.out⟩
end Go.Proofs.Ytjfnhlmmflammaa
