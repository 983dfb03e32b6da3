/-
  Contracts: the program of layer 15: bytes, names, Go's library, small states.
  Contracts: the program of layer 15: text, comments.
  Contracts: the program of layer 15: tags.
  Contracts: the program of layer 15: content of scripts and styles.
  Contracts: the program of layer 15: contents, tags and Step.
  Contracts: the program of layer 15: Step.
-/
import Derived.Test.YteclclidibmajaaHr15
import Derived.Test.YteclclidibmajaaRegion2
import Derived.Lib.Bytealg
namespace Go.Proofs.Yteclclidibmajaa
open Go.RowKit Go.BigFrame
set_option linter.unusedVariables false
set_option linter.unusedSimpArgs false
set_option maxRecDepth 100000

set_option maxHeartbeats 1000000 in
set_option maxRecDepth 100000 in
theorem liteIndex_c (s : ByteArray) (c : Int) (w : World) :
    Calls Try.prog 26 #[.string s, .int .u8 c] w fun e w' => e = .returned (.int .i64 (Lib.indexByte s.data.toList c.toNat.toUInt8)) ∧ w' = w := by
  go_enter Try.func26, Try.ntmps26
  go_wp2
  rw [run_callFunc_extern Try.func46 (by kernel_rfl) (by kernel_rfl) (by kernel_rfl) (e := Extern.BytealgIndexByte.indexByte) (by kernel_rfl), Lib.run_indexByteString]
  simp only [Result.andThen]
  rw [Oper.upon_value]
  go_wp2
  go_ret
  exact ⟨rfl, rfl⟩
theorem indexByte_c (l : List UInt8) (w : World) :
    Calls Try.prog 19 #[.string (ofL l), .int .u8 60] w fun e w' => e = .returned (.int .i64 (Lib.indexByte l 60)) ∧ w' = w := by
  have HI := Lib.hid (liteIndex_c (ofL l) 60 w)
  go_enter Try.func19, Try.ntmps19
  go_wp2_with (go_at_call 26; ((with_reducible refine HI.out.mono ?_); rintro e w' ⟨rfl, hw⟩; rw [hw]))
  go_ret
  exact ⟨rfl, rfl⟩
/-- Does a list begin so? -/
def preB (s p : List UInt8) : Bool := decide (s.take p.length = p)
theorem litePre_c (s p : List UInt8) (w : World) (hs : s.length ≤ 100000) (hp : p.length ≤ 100000) :
    Calls Try.prog 81 #[.string (ofL s), .string (ofL p)] w fun e w' => e = .returned (.bool (preB s p)) ∧ w' = w := by
  have hz : (ofL s).size = s.length := rfl
  have hy : (ofL p).size = p.length := rfl
  have he := ext_take s p.length
  go_enter Try.func81, Try.ntmps81
  go_wp2_with fail
  · go_ret
    refine ⟨ret_bool ?_, rfl⟩
    unfold preB
    rw [Bool.eq_iff_iff, decide_eq_true_iff]
    simp [he, ofL_list]
  · go_ret
    refine ⟨ret_bool ?_, rfl⟩
    unfold preB
    symm
    rw [decide_eq_false_iff_not]
    intro h
    have := congrArg List.length h
    rw [List.length_take] at this
    omega
theorem hasPre_c (s p : List UInt8) (w : World) (hs : s.length ≤ 100000) (hp : p.length ≤ 100000) :
    Calls Try.prog 78 #[.string (ofL s), .string (ofL p)] w fun e w' => e = .returned (.bool (preB s p)) ∧ w' = w := by
  have HI := Lib.hid (litePre_c s p w hs hp)
  go_enter Try.func78, Try.ntmps78
  go_wp2_with (go_at_call 81; ((with_reducible refine HI.out.mono ?_); rintro e w' ⟨rfl, hw⟩; rw [hw]))
  go_ret
  exact ⟨rfl, rfl⟩
theorem plower_c (c : UInt8) (w : World) :
    Calls Try.prog 79 #[.int .u8 c.toNat] w fun e w' => e = .returned (.int .u8 (lowB c).toNat) ∧ w' = w := by
  have hlt := c.toNat_lt
  go_enter Try.func79, Try.ntmps79
  go_wp2_with fail
  all_goals (go_ret; exact ⟨ret_u8 (by rw [lowB_nat]; split <;> omega), rfl⟩)
theorem pletter_c (c : UInt8) (w : World) :
    Calls Try.prog 73 #[.int .u8 c.toNat] w fun e w' => e = .returned (.bool (ltrB c)) ∧ w' = w := by
  have hlt := c.toNat_lt
  have HL := Lib.hid (plower_c c w)
  go_enter Try.func73, Try.ntmps73
  go_wp2_with (go_at_call 79; ((with_reducible refine HL.out.mono ?_); rintro e w' ⟨rfl, hw⟩; rw [hw]))
  all_goals (go_ret; refine ⟨ret_bool ?_, rfl⟩; rw [ltrB_eq]; simp; try omega)
theorem pspace_c (c : UInt8) (w : World) :
    Calls Try.prog 75 #[.int .u8 c.toNat] w fun e w' => e = .returned (.bool (spcB c)) ∧ w' = w := by
  have hlt := c.toNat_lt
  go_enter Try.func75, Try.ntmps75
  go_wp2_with fail
  all_goals (go_ret; refine ⟨ret_bool ?_, rfl⟩; rw [Bool.eq_iff_iff, spcB_iff]; simp; try omega)
theorem padd_c (s : List UInt8) (c : UInt8) (w : World) (hs : s.length ≤ 100000) :
    Calls Try.prog 74 #[.string (ofL s), .int .u8 c.toNat] w fun e w' => e = .returned (.string (ofL (addL s c))) ∧ Bel w w' := by
  have HL := Lib.hid (plower_c c w)
  have HO := Lib.hid (one_str (lowB c) w)
  have hz : (ofL s).size = s.length := rfl
  have ho := HO.out
  go_enter Try.func74, Try.ntmps74
  go_wp2_with (go_at_call 79; ((with_reducible refine HL.out.mono ?_); rintro e w' ⟨rfl, rfl⟩))
  · go_ret
    exact ⟨by unfold addL; rw [if_pos (by omega)]; rfl, Bel.refl _⟩
  · go_ret
    exact ⟨by unfold addL; rw [if_neg (by omega), ← ofL_snoc]; rfl, Bel.alloc _ _⟩
/-- 'urlA' and 'rawA' in the words of a walk. -/
theorem urlA_w (a : List UInt8) : (urlA a = true) ↔ (((ofL a).toList == [104, 114, 101, 102]) = true ∨ ((ofL a).toList == [115, 114, 99]) = true ∨ ((ofL a).toList == [97, 99, 116, 105, 111, 110]) = true ∨ ((ofL a).toList == [102, 111, 114, 109, 97, 99, 116, 105, 111, 110]) = true) := by
  simp only [ofL_list, beq_iff_eq (a := a)]
  unfold urlA
  simp only [Bool.or_eq_true, decide_eq_true_eq]
theorem rawA_w (a : List UInt8) : (rawA a = true) ↔ (((ofL a).toList == [115, 116, 121, 108, 101]) = true ∨ ((ofL a).toList == [115, 114, 99, 100, 111, 99]) = true ∨ preB a [111, 110] = true) := by
  simp only [ofL_list, beq_iff_eq (a := a)]
  unfold rawA preB
  simp only [Bool.or_eq_true, decide_eq_true_eq]
  rfl
set_option maxRecDepth 100000 in
set_option maxHeartbeats 3200000 in
theorem pquoted_c (a : List UInt8) (u r v : Int) (w : World) (ha : a.length ≤ 100000) :
    Calls Try.prog 77 #[.string (ofL a), .int .i64 u, .int .i64 r, .int .i64 v] w fun e w' => e = .returned (.int .i64 (if urlA a = true then u else if rawA a = true then r else v)) ∧ w' = w := by
  have HP : Hid (Calls Try.prog 78 #[.string (ofL a), .string ⟨#[111, 110]⟩] w fun e w' => e = .returned (.bool (preB a [111, 110])) ∧ w' = w) := Lib.hid (hasPre_c a [111, 110] w ha (by decide))
  obtain ⟨R, hR⟩ : ∃ R, R = if urlA a = true then u else if rawA a = true then r else v := ⟨_, rfl⟩
  rw [← hR]
  simp only [urlA_w, rawA_w] at hR
  have HR := Lib.hid hR
  clear hR
  go_enter Try.func77, Try.ntmps77
  go_wp2_with (go_at_call 78; ((with_reducible refine HP.out.mono ?_); rintro e w' ⟨rfl, hw⟩; rw [hw]))
  all_goals go_ret
  all_goals refine ⟨?_, rfl⟩
  all_goals rw [HR.out]
  all_goals first
    | (exfalso; simp_all; done)
    | (simp only [*, if_true, if_false, Bool.false_eq_true, true_or, or_true, or_self]; first | done | rfl)
    | trace_state
/-- The end: the result lies in the newest block. -/
theorem pst_new {f : Func} {k g : Nat} {tmps : Array Value} {w w1 : World} {v0 v1 v2 v3 : Value} {v : Value} (hf : f.results = #[.cell k 34]) (hp : tmps.getD k undef = .pointer (some ⟨g, 0, none⟩)) (hg : g = w1.heap.size)
    (he : Value.agg #[v0, v1, v2, v3] = v) (hb : Bel w (w1.alloc (.cells #[v0, v1, v2, v3] 34))) : bodyPost Try.prog f (SvV v w) .ret { tmps := tmps, defers := [] } (w1.alloc (.cells #[v0, v1, v2, v3] 34)) := by
  subst hg
  refine bodyPost_ret (results_cell_row hf _ _ w1.heap.size _ _ (0, 0) _ hp (Blk.new w1 34 [v0, v1, v2, v3]) Try.underlying34 rfl (by kernel_rfl)) rfl ?_
  exact ⟨by rw [← he], hb⟩
/-- The end: the result's cells are written one by one. -/
theorem pst_set {f : Func} {k g : Nat} {tmps : Array Value} {w w1 : World} {a0 a1 a2 a3 v0 v1 v2 v3 : Value} {v : Value} (hf : f.results = #[.cell k 34]) (hp : tmps.getD k undef = .pointer (some ⟨g, 0, none⟩))
    (he : Value.agg #[v0, v1, v2, v3] = v) (hB : Blk w1 g 34 [a0, a1, a2, a3]) (hb : Bel w w1) (hg : w.heap.size ≤ g) :
    bodyPost Try.prog f (SvV v w) .ret { tmps := tmps, defers := [] } ((((w1.setCell ⟨g, 0, none⟩ v0).setCell ⟨g, 1, none⟩ v1).setCell ⟨g, 2, none⟩ v2).setCell ⟨g, 3, none⟩ v3) := by
  have h1 := (((hB.set_ 0 v0).set_ 1 v1).set_ 2 v2).set_ 3 v3
  simp only [List.set_cons_succ, List.set_cons_zero] at h1
  refine bodyPost_ret (results_cell_row hf _ _ g _ _ (0, 0) _ hp h1 Try.underlying34 rfl (by kernel_rfl)) rfl ?_
  exact ⟨by rw [← he], bel_on1 hb (((((Only.refl [g] w1).setCell (.inl (by simp)) _).setCell (.inl (by simp)) _).setCell (.inl (by simp)) _).setCell (.inl (by simp)) _) hg⟩
theorem ptag_c (k : Int) (n a p : ByteArray) (w : World) : Calls Try.prog 31 #[stV k n a p] w (SvV (stV 1 n ⟨#[]⟩ ⟨#[]⟩) w) := by
  unfold stV
  go_enter Try.func31, Try.ntmps31
  go_wp2_with fail
  exact pst_new rfl rfl (by simp) rfl ((Bel.alloc _ _).trans (Bel.alloc _ _))
theorem pattr_c (k j : Int) (n a p b : ByteArray) (w : World) : Calls Try.prog 76 #[stV k n a p, .int .i64 j, .string b] w (SvV (stV j n b ⟨#[]⟩) w) := by
  unfold stV
  go_enter Try.func76, Try.ntmps76
  go_wp2_with fail
  exact pst_new rfl rfl (by simp) rfl ((Bel.alloc _ _).trans (Bel.alloc _ _))
set_option maxRecDepth 100000 in
theorem popen_c (k : Int) (n : List UInt8) (a p : ByteArray) (w : World) : Calls Try.prog 50 #[stV k (ofL n) a p] w (SvP (openS n) w) := by
  unfold stV
  go_enter Try.func50, Try.ntmps50
  go_wp2_with fail
  all_goals refine pst_new rfl rfl (by simp) ?_ ((Bel.alloc _ _).trans (Bel.alloc _ _))
  all_goals simp_all [str_eq', openS, scriptL, styleL, HS.val, stV, s0, ofL]
set_option maxRecDepth 100000 in
theorem pstay_c (k j : Int) (n a p m b q : ByteArray) (c d : UInt8) (w : World) : Calls Try.prog 28 #[stV k n a p, .int .u8 c.toNat, .int .u8 d.toNat, stV j m b q] w (SvV (if c = d then stV j m b q else stV k n a p) w) := by
  rw [show (if c = d then stV j m b q else stV k n a p) = if ((c.toNat : Int) == (d.toNat : Int)) = true then stV j m b q else stV k n a p from by simp only [beq_iff_eq, ← u8_iff]]
  unfold stV
  go_enter Try.func28, Try.ntmps28
  go_wp2_with fail
  all_goals refine pst_new rfl rfl (by simp) ?_ (((Bel.alloc _ _).trans (Bel.alloc _ _)).trans (Bel.alloc _ _))
  all_goals simp only [*, if_true, if_false, Bool.false_eq_true]
end Go.Proofs.Yteclclidibmajaa

namespace Go.Proofs.Yteclclidibmajaa
open Go.RowKit Go.BigFrame
set_option linter.unusedVariables false
set_option linter.unusedSimpArgs false
set_option maxRecDepth 100000

/-- 'textS' behind '<', in the words of a walk. -/
theorem less_w (c : UInt8) : textS [60] c = if ltrB c = true then ⟨2, addL [] c, [], []⟩ else if ((c.toNat : Int) == 47) = true then ⟨0, [], [], [60, 47]⟩ else if ((c.toNat : Int) == 33) = true then ⟨0, [], [], [60, 33]⟩ else if ((c.toNat : Int) == 60) = true then ⟨0, [], [], [60]⟩ else s0 0 := by
  have hc : ∀ k : UInt8, c = k ↔ ((c.toNat : Int) == (k.toNat : Int)) = true := fun k => by rw [u8_iff, beq_iff_eq]
  have h47 : c = 47 ↔ ((c.toNat : Int) == 47) = true := hc 47
  have h33 : c = 33 ↔ ((c.toNat : Int) == 33) = true := hc 33
  have h60 : c = 60 ↔ ((c.toNat : Int) == 60) = true := hc 60
  simp only [← h47, ← h33, ← h60]
  unfold textS
  rw [if_pos rfl]
  by_cases h1 : c = 47
  · subst h1; rfl
  · by_cases h2 : c = 33
    · subst h2; rfl
    · simp [h1, h2]
theorem slash_w (c : UInt8) : textS [60, 47] c = if ltrB c = true then s0 15 else if ((c.toNat : Int) == 60) = true then ⟨0, [], [], [60]⟩ else s0 0 := by
  have h60 : c = 60 ↔ ((c.toNat : Int) == 60) = true := by rw [u8_iff, beq_iff_eq]; rfl
  simp only [← h60]
  rfl
/-- 'stepLessMark' as plain data: 't' behind a hyphen. -/
def markS (t : HS) (c : UInt8) : HS := if c = 45 then t else if c = 62 then s0 0 else s0 14
theorem mark_w (t : HS) (c : UInt8) : markS t c = if ((c.toNat : Int) == 45) = true then t else if ((c.toNat : Int) == 62) = true then s0 0 else s0 14 := by
  have h45 : c = 45 ↔ ((c.toNat : Int) == 45) = true := by rw [u8_iff, beq_iff_eq]; rfl
  have h62 : c = 62 ↔ ((c.toNat : Int) == 62) = true := by rw [u8_iff, beq_iff_eq]; rfl
  unfold markS
  simp only [← h45, ← h62]
set_option maxRecDepth 100000 in
set_option maxHeartbeats 3200000 in
theorem pless_c (c : UInt8) (w : World) : Calls Try.prog 47 #[.agg #[.int .i64 0, .string ⟨#[]⟩, .string ⟨#[]⟩, .string ⟨#[60]⟩], .int .u8 c.toNat] w (SvP (textS [60] c) w) := by
  have HB2 := Lib.hid ((Bel.alloc w (.cells #[.int .i64 0, .string ⟨#[]⟩, .string ⟨#[]⟩, .string ⟨#[60]⟩] 34)).trans (Bel.alloc (w.alloc (.cells #[.int .i64 0, .string ⟨#[]⟩, .string ⟨#[]⟩, .string ⟨#[60]⟩] 34)) (.cells #[.int .i64 0, .string ⟨#[]⟩, .string ⟨#[]⟩, .string ⟨#[]⟩] 34)))
  have HR2 := Lib.hid (blk_at1h w (.cells #[.int .i64 0, .string ⟨#[]⟩, .string ⟨#[]⟩, .string ⟨#[60]⟩] 34) 34 [.int .i64 0, .string ⟨#[]⟩, .string ⟨#[]⟩, .string ⟨#[]⟩])
  have HAD := Lib.hid (fun W => padd_c [] c W (by simp))
  rw [ofL_nil] at HAD
  go_enter Try.func47, Try.ntmps47
  go_wp2_with (first
    | (go_at_call 73; ((with_reducible refine (pletter_c c _).mono ?_); rintro e w1 ⟨rfl, rfl⟩))
    | (go_at_call 74; ((with_reducible refine (HAD.out _).mono ?_); rintro e w2 ⟨rfl, hb⟩; have HB := Lib.hid (HB2.out.trans hb); have HR := Lib.hid (HR2.out.belh hb); clear hb; obtain ⟨r0, r1, r2, r3⟩ := cells4 HR.out; obtain ⟨v0, v1, v2, v3⟩ := frees4 HR.out)))
  all_goals first
    | ((with_reducible apply pst_new (k := 4) (g := w.heap.size + 1)); (case hf => rfl); (case hp => rfl); (case hg => simp); (case hb => exact (Bel.alloc _ _).trans (Bel.alloc _ _)))
    | ((with_reducible apply pst_set (k := 4) (g := w.heap.size + 1)); (case hf => rfl); (case hp => rfl); (case hB => exact HR.out); (case hb => exact HB.out); (case hg => omega))
  all_goals rw [less_w]
  all_goals first
    | (simp only [*, if_true, if_false, Bool.false_eq_true]; rfl)
    | trace_state
set_option maxRecDepth 100000 in
set_option maxHeartbeats 3200000 in
theorem pslash_c (c : UInt8) (w : World) : Calls Try.prog 48 #[.int .u8 c.toNat] w (SvP (textS [60, 47] c) w) := by
  go_enter Try.func48, Try.ntmps48
  go_wp2_with (go_at_call 73; ((with_reducible refine (pletter_c c _).mono ?_); rintro e w1 ⟨rfl, rfl⟩))
  all_goals first
    | ((with_reducible apply pst_new (k := 2) (g := w.heap.size)); (case hf => rfl); (case hp => rfl); (case hg => rfl); (case hb => exact (Bel.alloc _ _)))
  all_goals rw [slash_w]
  all_goals first
    | (simp only [*, if_true, if_false, Bool.false_eq_true]; rfl)
    | trace_state
set_option maxRecDepth 100000 in
set_option maxHeartbeats 3200000 in
theorem pmark_c (t : HS) (c : UInt8) (w : World) : Calls Try.prog 49 #[.agg #[.int .i64 (t.c : Nat), .string (ofL t.n), .string (ofL t.a), .string (ofL t.p)], .int .u8 c.toNat] w (SvP (markS t c) w) := by
  go_enter Try.func49, Try.ntmps49
  go_wp2_with fail
  all_goals first
    | ((with_reducible apply pst_new (k := 4) (g := w.heap.size + 1)); (case hf => rfl); (case hp => rfl); (case hg => simp); (case hb => exact (Bel.alloc _ _).trans (Bel.alloc _ _)))
  all_goals rw [mark_w]
  all_goals first
    | (simp only [*, if_true, if_false, Bool.false_eq_true]; rfl)
    | trace_state
set_option maxRecDepth 100000 in
set_option maxHeartbeats 3200000 in
theorem pcomment_c (k : Int) (n a : ByteArray) (p : List UInt8) (c : UInt8) (w : World) : Calls Try.prog 29 #[stV k n a (ofL p), .int .u8 c.toNat] w (SvP (commentS p c) w) := by
  unfold stV
  go_enter Try.func29, Try.ntmps29
  go_wp2_with fail
  all_goals refine pst_new rfl rfl (by simp) ?_ ((Bel.alloc _ _).trans (Bel.alloc _ _))
  all_goals simp_all [ofL_list, u8_iff, commentS, HS.val, stV, s0, ofL]
set_option maxRecDepth 100000 in
set_option maxHeartbeats 3200000 in
theorem ptext_0 (t : HS) (c : UInt8) (w : World) 
    (hc : ∀ W, Calls Try.prog 28 #[.agg #[.int .i64 0, .string ⟨#[]⟩, .string ⟨#[]⟩, .string ⟨#[]⟩], .int .u8 c.toNat, .int .u8 60, .agg #[.int .i64 0, .string ⟨#[]⟩, .string ⟨#[]⟩, .string ⟨#[60]⟩]] W (SvV (.agg #[.int .i64 (t.c : Nat), .string (ofL t.n), .string (ofL t.a), .string (ofL t.p)]) W)) :
    Calls Try.prog 27 #[stV 0 ⟨#[]⟩ ⟨#[]⟩ ⟨#[]⟩, .int .u8 c.toNat] w (SvV t.val w) := by
  unfold stV
  have HC := Lib.hid hc
  clear hc
  have HB2 := Lib.hid ((Bel.alloc w (.cells #[.int .i64 0, .string ⟨#[]⟩, .string ⟨#[]⟩, .string ⟨#[]⟩] 34)).trans (Bel.alloc (w.alloc (.cells #[.int .i64 0, .string ⟨#[]⟩, .string ⟨#[]⟩, .string ⟨#[]⟩] 34)) (.cells #[.int .i64 0, .string ⟨#[]⟩, .string ⟨#[]⟩, .string ⟨#[]⟩] 34)))
  have HR2 := Lib.hid (blk_at1h w (.cells #[.int .i64 0, .string ⟨#[]⟩, .string ⟨#[]⟩, .string ⟨#[]⟩] 34) 34 [.int .i64 0, .string ⟨#[]⟩, .string ⟨#[]⟩, .string ⟨#[]⟩])
  go_enter Try.func27, Try.ntmps27
  go_wp2_with (go_at_call 28; ((with_reducible refine (HC.out _).mono ?_); rintro e w2 ⟨rfl, hb⟩; have HB := Lib.hid (HB2.out.trans hb); have HR := Lib.hid (HR2.out.belh hb); clear hb; obtain ⟨r0, r1, r2, r3⟩ := cells4 HR.out; obtain ⟨v0, v1, v2, v3⟩ := frees4 HR.out))
  all_goals first
    | ((with_reducible apply pst_set (k := 4) (g := w.heap.size + 1)); (case hf => rfl); (case hp => rfl); (case hB => exact HR.out); (case hb => exact HB.out); (case hg => omega); rfl)
    | trace_state
set_option maxRecDepth 100000 in
set_option maxHeartbeats 3200000 in
theorem ptext_1 (t : HS) (c : UInt8) (w : World) 
    (hc : ∀ W, Calls Try.prog 47 #[.agg #[.int .i64 0, .string ⟨#[]⟩, .string ⟨#[]⟩, .string ⟨#[60]⟩], .int .u8 c.toNat] W (SvV (.agg #[.int .i64 (t.c : Nat), .string (ofL t.n), .string (ofL t.a), .string (ofL t.p)]) W)) :
    Calls Try.prog 27 #[stV 0 ⟨#[]⟩ ⟨#[]⟩ ⟨#[60]⟩, .int .u8 c.toNat] w (SvV t.val w) := by
  unfold stV
  have HC := Lib.hid hc
  clear hc
  have HB2 := Lib.hid ((Bel.alloc w (.cells #[.int .i64 0, .string ⟨#[]⟩, .string ⟨#[]⟩, .string ⟨#[60]⟩] 34)).trans (Bel.alloc (w.alloc (.cells #[.int .i64 0, .string ⟨#[]⟩, .string ⟨#[]⟩, .string ⟨#[60]⟩] 34)) (.cells #[.int .i64 0, .string ⟨#[]⟩, .string ⟨#[]⟩, .string ⟨#[]⟩] 34)))
  have HR2 := Lib.hid (blk_at1h w (.cells #[.int .i64 0, .string ⟨#[]⟩, .string ⟨#[]⟩, .string ⟨#[60]⟩] 34) 34 [.int .i64 0, .string ⟨#[]⟩, .string ⟨#[]⟩, .string ⟨#[]⟩])
  go_enter Try.func27, Try.ntmps27
  go_wp2_with (go_at_call 47; ((with_reducible refine (HC.out _).mono ?_); rintro e w2 ⟨rfl, hb⟩; have HB := Lib.hid (HB2.out.trans hb); have HR := Lib.hid (HR2.out.belh hb); clear hb; obtain ⟨r0, r1, r2, r3⟩ := cells4 HR.out; obtain ⟨v0, v1, v2, v3⟩ := frees4 HR.out))
  all_goals first
    | ((with_reducible apply pst_set (k := 4) (g := w.heap.size + 1)); (case hf => rfl); (case hp => rfl); (case hB => exact HR.out); (case hb => exact HB.out); (case hg => omega); rfl)
    | trace_state
set_option maxRecDepth 100000 in
set_option maxHeartbeats 3200000 in
theorem ptext_2 (t : HS) (c : UInt8) (w : World) 
    (hc : ∀ W, Calls Try.prog 48 #[.int .u8 c.toNat] W (SvV (.agg #[.int .i64 (t.c : Nat), .string (ofL t.n), .string (ofL t.a), .string (ofL t.p)]) W)) :
    Calls Try.prog 27 #[stV 0 ⟨#[]⟩ ⟨#[]⟩ ⟨#[60, 47]⟩, .int .u8 c.toNat] w (SvV t.val w) := by
  unfold stV
  have HC := Lib.hid hc
  clear hc
  have HB2 := Lib.hid ((Bel.alloc w (.cells #[.int .i64 0, .string ⟨#[]⟩, .string ⟨#[]⟩, .string ⟨#[60, 47]⟩] 34)).trans (Bel.alloc (w.alloc (.cells #[.int .i64 0, .string ⟨#[]⟩, .string ⟨#[]⟩, .string ⟨#[60, 47]⟩] 34)) (.cells #[.int .i64 0, .string ⟨#[]⟩, .string ⟨#[]⟩, .string ⟨#[]⟩] 34)))
  have HR2 := Lib.hid (blk_at1h w (.cells #[.int .i64 0, .string ⟨#[]⟩, .string ⟨#[]⟩, .string ⟨#[60, 47]⟩] 34) 34 [.int .i64 0, .string ⟨#[]⟩, .string ⟨#[]⟩, .string ⟨#[]⟩])
  go_enter Try.func27, Try.ntmps27
  go_wp2_with (go_at_call 48; ((with_reducible refine (HC.out _).mono ?_); rintro e w2 ⟨rfl, hb⟩; have HB := Lib.hid (HB2.out.trans hb); have HR := Lib.hid (HR2.out.belh hb); clear hb; obtain ⟨r0, r1, r2, r3⟩ := cells4 HR.out; obtain ⟨v0, v1, v2, v3⟩ := frees4 HR.out))
  all_goals first
    | ((with_reducible apply pst_set (k := 4) (g := w.heap.size + 1)); (case hf => rfl); (case hp => rfl); (case hB => exact HR.out); (case hb => exact HB.out); (case hg => omega); rfl)
    | trace_state
set_option maxRecDepth 100000 in
set_option maxHeartbeats 3200000 in
theorem ptext_3 (t : HS) (c : UInt8) (w : World) 
    (hc : ∀ W, Calls Try.prog 49 #[.agg #[.int .i64 0, .string ⟨#[]⟩, .string ⟨#[]⟩, .string ⟨#[60, 33, 45]⟩], .int .u8 c.toNat] W (SvV (.agg #[.int .i64 (t.c : Nat), .string (ofL t.n), .string (ofL t.a), .string (ofL t.p)]) W)) :
    Calls Try.prog 27 #[stV 0 ⟨#[]⟩ ⟨#[]⟩ ⟨#[60, 33]⟩, .int .u8 c.toNat] w (SvV t.val w) := by
  unfold stV
  have HC := Lib.hid hc
  clear hc
  have HB2 := Lib.hid ((Bel.alloc w (.cells #[.int .i64 0, .string ⟨#[]⟩, .string ⟨#[]⟩, .string ⟨#[60, 33]⟩] 34)).trans (Bel.alloc (w.alloc (.cells #[.int .i64 0, .string ⟨#[]⟩, .string ⟨#[]⟩, .string ⟨#[60, 33]⟩] 34)) (.cells #[.int .i64 0, .string ⟨#[]⟩, .string ⟨#[]⟩, .string ⟨#[]⟩] 34)))
  have HR2 := Lib.hid (blk_at1h w (.cells #[.int .i64 0, .string ⟨#[]⟩, .string ⟨#[]⟩, .string ⟨#[60, 33]⟩] 34) 34 [.int .i64 0, .string ⟨#[]⟩, .string ⟨#[]⟩, .string ⟨#[]⟩])
  go_enter Try.func27, Try.ntmps27
  go_wp2_with (go_at_call 49; ((with_reducible refine (HC.out _).mono ?_); rintro e w2 ⟨rfl, hb⟩; have HB := Lib.hid (HB2.out.trans hb); have HR := Lib.hid (HR2.out.belh hb); clear hb; obtain ⟨r0, r1, r2, r3⟩ := cells4 HR.out; obtain ⟨v0, v1, v2, v3⟩ := frees4 HR.out))
  all_goals first
    | ((with_reducible apply pst_set (k := 4) (g := w.heap.size + 1)); (case hf => rfl); (case hp => rfl); (case hB => exact HR.out); (case hb => exact HB.out); (case hg => omega); rfl)
    | trace_state
set_option maxRecDepth 100000 in
set_option maxHeartbeats 3200000 in
theorem ptext_4 (t : HS) (c : UInt8) (w : World) 
    (hc : ∀ W, Calls Try.prog 49 #[.agg #[.int .i64 13, .string ⟨#[]⟩, .string ⟨#[]⟩, .string ⟨#[]⟩], .int .u8 c.toNat] W (SvV (.agg #[.int .i64 (t.c : Nat), .string (ofL t.n), .string (ofL t.a), .string (ofL t.p)]) W)) :
    Calls Try.prog 27 #[stV 0 ⟨#[]⟩ ⟨#[]⟩ ⟨#[60, 33, 45]⟩, .int .u8 c.toNat] w (SvV t.val w) := by
  unfold stV
  have HC := Lib.hid hc
  clear hc
  have HB2 := Lib.hid ((Bel.alloc w (.cells #[.int .i64 0, .string ⟨#[]⟩, .string ⟨#[]⟩, .string ⟨#[60, 33, 45]⟩] 34)).trans (Bel.alloc (w.alloc (.cells #[.int .i64 0, .string ⟨#[]⟩, .string ⟨#[]⟩, .string ⟨#[60, 33, 45]⟩] 34)) (.cells #[.int .i64 0, .string ⟨#[]⟩, .string ⟨#[]⟩, .string ⟨#[]⟩] 34)))
  have HR2 := Lib.hid (blk_at1h w (.cells #[.int .i64 0, .string ⟨#[]⟩, .string ⟨#[]⟩, .string ⟨#[60, 33, 45]⟩] 34) 34 [.int .i64 0, .string ⟨#[]⟩, .string ⟨#[]⟩, .string ⟨#[]⟩])
  go_enter Try.func27, Try.ntmps27
  go_wp2_with (go_at_call 49; ((with_reducible refine (HC.out _).mono ?_); rintro e w2 ⟨rfl, hb⟩; have HB := Lib.hid (HB2.out.trans hb); have HR := Lib.hid (HR2.out.belh hb); clear hb; obtain ⟨r0, r1, r2, r3⟩ := cells4 HR.out; obtain ⟨v0, v1, v2, v3⟩ := frees4 HR.out))
  all_goals first
    | ((with_reducible apply pst_set (k := 4) (g := w.heap.size + 1)); (case hf => rfl); (case hp => rfl); (case hB => exact HR.out); (case hb => exact HB.out); (case hg => omega); rfl)
    | trace_state
/-- Text. -/
theorem ptext_c (p : List UInt8) (hp : p = [] ∨ p = [60] ∨ p = [60, 47] ∨ p = [60, 33] ∨ p = [60, 33, 45]) (c : UInt8) (w : World) : Calls Try.prog 27 #[stV 0 ⟨#[]⟩ ⟨#[]⟩ (ofL p), .int .u8 c.toNat] w (SvP (textS p c) w) := by
  rcases hp with rfl | rfl | rfl | rfl | rfl
  · refine ptext_0 _ c w fun W => ?_
    have h := pstay_c 0 0 ⟨#[]⟩ ⟨#[]⟩ ⟨#[]⟩ ⟨#[]⟩ ⟨#[]⟩ ⟨#[60]⟩ c 60 W
    have e : (if c = 60 then stV 0 ⟨#[]⟩ ⟨#[]⟩ ⟨#[60]⟩ else stV 0 ⟨#[]⟩ ⟨#[]⟩ ⟨#[]⟩) = HS.val (textS [] c) := by
      show _ = HS.val (if c = 60 then ⟨0, [], [], [60]⟩ else s0 0)
      split <;> rfl
    rw [e] at h
    exact h
  · exact ptext_1 _ c w fun W => pless_c c W
  · exact ptext_2 _ c w fun W => pslash_c c W
  · exact ptext_3 _ c w fun W => pmark_c ⟨0, [], [], [60, 33, 45]⟩ c W
  · exact ptext_4 _ c w fun W => pmark_c (s0 13) c W
end Go.Proofs.Yteclclidibmajaa

namespace Go.Proofs.Yteclclidibmajaa
open Go.RowKit Go.BigFrame
set_option linter.unusedVariables false
set_option linter.unusedSimpArgs false
set_option maxRecDepth 100000

theorem bel_setp {w w1 : World} {b : Nat} (h : Bel w w1) (hb : w.heap.size ≤ b) (i : Nat) (v : Value) : Bel w (w1.setCell ⟨b, i, none⟩ v) := bel_on1 h ((Only.refl [b] _).setCell (.inl (by simp)) _) hb
theorem urlA_raw {a : List UInt8} (h : urlA a = true) : rawA a = false := by
  unfold urlA at h
  simp only [Bool.or_eq_true, decide_eq_true_eq] at h
  rcases h with rfl | rfl | rfl | rfl <;> rfl
theorem quot_dq (a : List UInt8) : (if urlA a = true then (9 : Int) else if rawA a = true then 11 else 7) = (quotedC a 34 : Nat) := by
  unfold quotedC
  by_cases h : urlA a = true
  · rw [if_pos h, if_neg (by simp [urlA_raw h]), if_pos h]; rfl
  · rw [if_neg h, if_neg h]; split <;> rfl
theorem quot_sq (a : List UInt8) : (if urlA a = true then (10 : Int) else if rawA a = true then 12 else 8) = (quotedC a 39 : Nat) := by
  unfold quotedC
  by_cases h : urlA a = true
  · rw [if_pos h, if_neg (by simp [urlA_raw h]), if_pos h]; rfl
  · rw [if_neg h, if_neg h]; split <;> rfl
def nmV (k : Int) (n a p : List UInt8) (c : UInt8) : Value := if spcB c = true ∨ ((c.toNat : Int) == 47) = true then stV 1 (ofL n) ⟨#[]⟩ ⟨#[]⟩ else stV k (ofL (addL n c)) (ofL a) (ofL p)
def btV (k : Int) (n a p : List UInt8) (c : UInt8) : Value := if spcB c = true ∨ ((c.toNat : Int) == 47) = true then stV k (ofL n) (ofL a) (ofL p) else stV 3 (ofL n) (ofL (addL [] c)) ⟨#[]⟩
def atV (n a : List UInt8) (c : UInt8) : Value := if spcB c = true then stV 4 (ofL n) (ofL a) ⟨#[]⟩ else if ((c.toNat : Int) == 47) = true then stV 1 (ofL n) ⟨#[]⟩ ⟨#[]⟩ else if ((c.toNat : Int) == 61) = true then stV 5 (ofL n) (ofL a) ⟨#[]⟩ else stV 3 (ofL n) (ofL (addL a c)) ⟨#[]⟩
def afV (k : Int) (n a p : List UInt8) (c : UInt8) : Value := if spcB c = true then stV k (ofL n) (ofL a) (ofL p) else if ((c.toNat : Int) == 47) = true then stV 1 (ofL n) ⟨#[]⟩ ⟨#[]⟩ else if ((c.toNat : Int) == 61) = true then stV 5 (ofL n) (ofL a) ⟨#[]⟩ else stV 3 (ofL n) (ofL (addL [] c)) ⟨#[]⟩
def bvV (k : Int) (n a p : List UInt8) (c : UInt8) : Value := if spcB c = true then stV k (ofL n) (ofL a) (ofL p) else if ((c.toNat : Int) == 34) = true then stV (quotedC a 34 : Nat) (ofL n) ⟨#[]⟩ ⟨#[]⟩ else if ((c.toNat : Int) == 39) = true then stV (quotedC a 39 : Nat) (ofL n) ⟨#[]⟩ ⟨#[]⟩ else stV 6 (ofL n) ⟨#[]⟩ ⟨#[]⟩
def uqV (k : Int) (n a p : List UInt8) (c : UInt8) : Value := if spcB c = true then stV 1 (ofL n) ⟨#[]⟩ ⟨#[]⟩ else stV k (ofL n) (ofL a) (ofL p)
set_option maxRecDepth 100000 in
set_option maxHeartbeats 3200000 in
theorem pname_c (k : Int) (n a p : List UInt8) (c : UInt8) (w : World) (hn : n.length ≤ 100000) : Calls Try.prog 51 #[stV k (ofL n) (ofL a) (ofL p), .int .u8 c.toNat] w (SvV (nmV k n a p c) w) := by
  unfold stV
  have HB2 := Lib.hid ((Bel.alloc w (.cells #[.int .i64 k, .string (ofL n), .string (ofL a), .string (ofL p)] 34)).trans (Bel.alloc (w.alloc (.cells #[.int .i64 k, .string (ofL n), .string (ofL a), .string (ofL p)] 34)) (.cells #[.int .i64 0, .string ⟨#[]⟩, .string ⟨#[]⟩, .string ⟨#[]⟩] 34)))
  have HR2 := Lib.hid (blk_at1h w (.cells #[.int .i64 k, .string (ofL n), .string (ofL a), .string (ofL p)] 34) 34 [.int .i64 0, .string ⟨#[]⟩, .string ⟨#[]⟩, .string ⟨#[]⟩])
  have HX2 := Lib.hid ((Blk.new w 34 [.int .i64 k, .string (ofL n), .string (ofL a), .string (ofL p)]).alloc (.cells #[.int .i64 0, .string ⟨#[]⟩, .string ⟨#[]⟩, .string ⟨#[]⟩] 34))
  have HSP := Lib.hid (fun W => pspace_c c W)
  have HTG : Hid (∀ W, Calls Try.prog 31 #[.agg #[.int .i64 k, .string (ofL n), .string (ofL a), .string (ofL p)]] W (SvV (.agg #[.int .i64 1, .string (ofL n), .string ⟨#[]⟩, .string ⟨#[]⟩]) W)) := Lib.hid (fun W => ptag_c k (ofL n) (ofL a) (ofL p) W)
  have HAN := Lib.hid (fun W => padd_c n c W hn)
  have hne : ¬ w.heap.size + 1 = w.heap.size := by omega
  go_enter Try.func51, Try.ntmps51
  go_wp2_with (first
    | (go_at_call 75; ((with_reducible refine (HSP.out _).mono ?_); rintro e w1 ⟨rfl, rfl⟩))
    | (go_at_call 31; ((with_reducible refine (HTG.out _).mono ?_); rintro e w2 ⟨rfl, hb⟩; have HB := Lib.hid (HB2.out.trans hb); have HR := Lib.hid (HR2.out.belh hb); clear hb; obtain ⟨r0, r1, r2, r3⟩ := cells4 HR.out; obtain ⟨v0, v1, v2, v3⟩ := frees4 HR.out))
    | (go_at_call 74; ((with_reducible refine (HAN.out _).mono ?_); rintro e w2 ⟨rfl, hb⟩; have HB := Lib.hid (HB2.out.trans hb); have HR := Lib.hid (HR2.out.belh hb); have HX := Lib.hid (HX2.out.belh hb); clear hb; obtain ⟨r0, r1, r2, r3⟩ := cells4 HR.out; obtain ⟨v0, v1, v2, v3⟩ := frees4 HR.out; obtain ⟨x0, x1, x2, x3⟩ := cells4 HX.out; obtain ⟨u0, u1, u2, u3⟩ := frees4 HX.out)))
  all_goals first
    | ((with_reducible apply pst_new (k := 4) (g := w.heap.size + 1)); (case hf => rfl); (case hp => rfl); (case hg => simp); (case hb => exact (Bel.alloc _ _).trans (Bel.alloc _ _)))
    | ((with_reducible apply pst_set (k := 4) (g := w.heap.size + 1)); (case hf => rfl); (case hp => rfl); (case hB => exact HR.out); (case hb => exact HB.out); (case hg => omega))
    | ((with_reducible apply pst_set (k := 4) (g := w.heap.size + 1)); (case hf => rfl); (case hp => rfl); (case hB => with_reducible exact HR.out.far hne _); (case hb => with_reducible exact bel_setp HB.out (Nat.le_refl _) _ _); (case hg => omega))
  all_goals unfold nmV
  all_goals first
    | (simp only [*, if_true, if_false, Bool.false_eq_true, or_true, true_or, or_self]; first | done | rfl)
    | trace_state
set_option maxRecDepth 100000 in
set_option maxHeartbeats 3200000 in
theorem punq_c (k : Int) (n a p : List UInt8) (c : UInt8) (w : World) : Calls Try.prog 55 #[stV k (ofL n) (ofL a) (ofL p), .int .u8 c.toNat] w (SvV (uqV k n a p c) w) := by
  unfold stV
  have HB2 := Lib.hid ((Bel.alloc w (.cells #[.int .i64 k, .string (ofL n), .string (ofL a), .string (ofL p)] 34)).trans (Bel.alloc (w.alloc (.cells #[.int .i64 k, .string (ofL n), .string (ofL a), .string (ofL p)] 34)) (.cells #[.int .i64 0, .string ⟨#[]⟩, .string ⟨#[]⟩, .string ⟨#[]⟩] 34)))
  have HR2 := Lib.hid (blk_at1h w (.cells #[.int .i64 k, .string (ofL n), .string (ofL a), .string (ofL p)] 34) 34 [.int .i64 0, .string ⟨#[]⟩, .string ⟨#[]⟩, .string ⟨#[]⟩])
  have HSP := Lib.hid (fun W => pspace_c c W)
  have HTG : Hid (∀ W, Calls Try.prog 31 #[.agg #[.int .i64 k, .string (ofL n), .string (ofL a), .string (ofL p)]] W (SvV (.agg #[.int .i64 1, .string (ofL n), .string ⟨#[]⟩, .string ⟨#[]⟩]) W)) := Lib.hid (fun W => ptag_c k (ofL n) (ofL a) (ofL p) W)
  go_enter Try.func55, Try.ntmps55
  go_wp2_with (first
    | (go_at_call 75; ((with_reducible refine (HSP.out _).mono ?_); rintro e w1 ⟨rfl, rfl⟩))
    | (go_at_call 31; ((with_reducible refine (HTG.out _).mono ?_); rintro e w2 ⟨rfl, hb⟩; have HB := Lib.hid (HB2.out.trans hb); have HR := Lib.hid (HR2.out.belh hb); clear hb; obtain ⟨r0, r1, r2, r3⟩ := cells4 HR.out; obtain ⟨v0, v1, v2, v3⟩ := frees4 HR.out)))
  all_goals first
    | ((with_reducible apply pst_new (k := 4) (g := w.heap.size + 1)); (case hf => rfl); (case hp => rfl); (case hg => simp); (case hb => exact (Bel.alloc _ _).trans (Bel.alloc _ _)))
    | ((with_reducible apply pst_set (k := 4) (g := w.heap.size + 1)); (case hf => rfl); (case hp => rfl); (case hB => exact HR.out); (case hb => exact HB.out); (case hg => omega))
  all_goals unfold uqV
  all_goals first
    | (simp only [*, if_true, if_false, Bool.false_eq_true, or_true, true_or, or_self]; first | done | rfl)
    | trace_state
set_option maxRecDepth 100000 in
set_option maxHeartbeats 3200000 in
theorem pbetween_c (k : Int) (n a p : List UInt8) (c : UInt8) (w : World) : Calls Try.prog 56 #[stV k (ofL n) (ofL a) (ofL p), .int .u8 c.toNat] w (SvV (btV k n a p c) w) := by
  unfold stV
  have HB2 := Lib.hid ((Bel.alloc w (.cells #[.int .i64 k, .string (ofL n), .string (ofL a), .string (ofL p)] 34)).trans (Bel.alloc (w.alloc (.cells #[.int .i64 k, .string (ofL n), .string (ofL a), .string (ofL p)] 34)) (.cells #[.int .i64 0, .string ⟨#[]⟩, .string ⟨#[]⟩, .string ⟨#[]⟩] 34)))
  have HR2 := Lib.hid (blk_at1h w (.cells #[.int .i64 k, .string (ofL n), .string (ofL a), .string (ofL p)] 34) 34 [.int .i64 0, .string ⟨#[]⟩, .string ⟨#[]⟩, .string ⟨#[]⟩])
  have HX2 := Lib.hid ((Blk.new w 34 [.int .i64 k, .string (ofL n), .string (ofL a), .string (ofL p)]).alloc (.cells #[.int .i64 0, .string ⟨#[]⟩, .string ⟨#[]⟩, .string ⟨#[]⟩] 34))
  have HSP := Lib.hid (fun W => pspace_c c W)
  have HA0 := Lib.hid (fun W => padd_c [] c W (by simp))
  rw [ofL_nil] at HA0
  have HAT : Hid (∀ W, Calls Try.prog 76 #[.agg #[.int .i64 k, .string (ofL n), .string (ofL a), .string (ofL p)], .int .i64 3, .string (ofL (addL [] c))] W (SvV (.agg #[.int .i64 3, .string (ofL n), .string (ofL (addL [] c)), .string ⟨#[]⟩]) W)) := Lib.hid (fun W => pattr_c k 3 (ofL n) (ofL a) (ofL p) (ofL (addL [] c)) W)
  go_enter Try.func56, Try.ntmps56
  go_wp2_with (go_at_call 75; ((with_reducible refine (HSP.out _).mono ?_); rintro e w1 ⟨rfl, rfl⟩))
  all_goals first
    | (((with_reducible apply pst_new (k := 4) (g := w.heap.size + 1)); (case hf => rfl); (case hp => rfl); (case hg => simp); (case hb => exact (Bel.alloc _ _).trans (Bel.alloc _ _))); unfold btV; simp only [*, if_true, if_false, Bool.false_eq_true, or_true, true_or, or_self])
    | skip
  all_goals
    first
    | done
    | (
      refine region_begin (T := [w.heap.size + 1]) (by kernel_rfl) ?_
      have HBd := Lib.hid (HB2.out.trans (Bel.drew _))
      have HRd := Lib.hid HR2.out.drew
      have HXd := Lib.hid HX2.out.drew
      generalize ((w.alloc (.cells #[.int .i64 k, .string (ofL n), .string (ofL a), .string (ofL p)] 34)).alloc (.cells #[.int .i64 0, .string ⟨#[]⟩, .string ⟨#[]⟩, .string ⟨#[]⟩] 34)).drew = Wd at HBd HRd HXd ⊢
      have p0 : ∀ X : Later [w.heap.size + 1] Wd, X.w.cell? ⟨w.heap.size, 0, none⟩ = some (.int .i64 k) := fun X => (HXd.out.only X.h (by simp)).cell 0
      have p1 : ∀ X : Later [w.heap.size + 1] Wd, X.w.cell? ⟨w.heap.size, 1, none⟩ = some (.string (ofL n)) := fun X => (HXd.out.only X.h (by simp)).cell 1
      have p2 : ∀ X : Later [w.heap.size + 1] Wd, X.w.cell? ⟨w.heap.size, 2, none⟩ = some (.string (ofL a)) := fun X => (HXd.out.only X.h (by simp)).cell 2
      have p3 : ∀ X : Later [w.heap.size + 1] Wd, X.w.cell? ⟨w.heap.size, 3, none⟩ = some (.string (ofL p)) := fun X => (HXd.out.only X.h (by simp)).cell 3
      refine region_seg [true, true] 3 (by kernel_rfl) (by kernel_rfl) (by kernel_rfl) rfl (fun _ _ d _ _ h => by cases d <;> exact h) ?_
      repeat (first | with_reducible refine wpMask_pass ?_ | (refine wpMask_want (by rfl) (fun K hK => ?_); go_big_quiet_op; refine hK _ ?_; clear hK K))
      with_reducible refine wpMask_nil ?_
      clear p0 p1 p2 p3
      refine region_call 2 (by kernel_rfl) rfl (by rfl) (by go_simp; exact ⟨rfl, rfl⟩) ?_
      (with_reducible refine (HA0.out _).mono ?_); rintro e w2 ⟨rfl, hb⟩; refine ⟨_, rfl, (Only.refl [w.heap.size + 1] _).join (bel_only hb) (by simp), ?_⟩
      replace HBd := Lib.hid (HBd.out.trans hb)
      replace HRd := Lib.hid (HRd.out.belh hb)
      clear hb
      simp only [List.getElem_toArray, List.getElem_cons_zero, List.getElem_cons_succ, Act.put, List.setIfInBounds_toArray, List.set_cons_zero, List.set_cons_succ]
      refine region_call 3 (by kernel_rfl) rfl (by rfl) (by go_simp; exact ⟨rfl, rfl⟩) ?_
      (with_reducible refine (HAT.out _).mono ?_); rintro e w3 ⟨rfl, hb⟩; refine ⟨_, rfl, (Only.refl [w.heap.size + 1] _).join (bel_only hb) (by simp), ?_⟩
      replace HBd := Lib.hid (HBd.out.trans hb)
      replace HRd := Lib.hid (HRd.out.belh hb)
      clear hb
      simp only [List.getElem_toArray, List.getElem_cons_zero, List.getElem_cons_succ, Act.put, List.setIfInBounds_toArray, List.set_cons_zero, List.set_cons_succ]
      obtain ⟨r0, r1, r2, r3⟩ := cells4 HRd.out
      obtain ⟨v0, v1, v2, v3⟩ := frees4 HRd.out
      refine region_store 4 (w1 := ((((w3.setCell ⟨w.heap.size + 1, 0, none⟩ (.int .i64 3)).setCell ⟨w.heap.size + 1, 1, none⟩ (.string (ofL n))).setCell ⟨w.heap.size + 1, 2, none⟩ (.string (ofL (addL [] c)))).setCell ⟨w.heap.size + 1, 3, none⟩ (.string ⟨#[]⟩))) (by kernel_rfl) rfl (by rfl) (by go_simp) (((((Only.refl [w.heap.size + 1] _).setCell (.inl (by simp)) _).setCell (.inl (by simp)) _).setCell (.inl (by simp)) _).setCell (.inl (by simp)) _) ?_
      simp only [List.getElem_toArray, List.getElem_cons_zero, List.getElem_cons_succ, Act.put, List.setIfInBounds_toArray, List.set_cons_zero, List.set_cons_succ]
      refine region_end (by kernel_rfl) ?_
      go_wp2_with fail
      (with_reducible apply pst_set (k := 4) (g := w.heap.size + 1))
      case hf => rfl
      case hp => rfl
      case hB => exact HRd.out
      case hb => exact HBd.out
      case hg => omega
      unfold btV
      simp only [*, if_true, if_false, Bool.false_eq_true, or_true, true_or, or_self, or_false, false_or]
      first | done | rfl)
set_option maxRecDepth 100000 in
set_option maxHeartbeats 3200000 in
theorem pattrname_c (k : Int) (n a p : List UInt8) (c : UInt8) (w : World) (ha : a.length ≤ 100000) : Calls Try.prog 52 #[stV k (ofL n) (ofL a) (ofL p), .int .u8 c.toNat] w (SvV (atV n a c) w) := by
  unfold stV
  have HB2 := Lib.hid ((Bel.alloc w (.cells #[.int .i64 k, .string (ofL n), .string (ofL a), .string (ofL p)] 34)).trans (Bel.alloc (w.alloc (.cells #[.int .i64 k, .string (ofL n), .string (ofL a), .string (ofL p)] 34)) (.cells #[.int .i64 0, .string ⟨#[]⟩, .string ⟨#[]⟩, .string ⟨#[]⟩] 34)))
  have HR2 := Lib.hid (blk_at1h w (.cells #[.int .i64 k, .string (ofL n), .string (ofL a), .string (ofL p)] 34) 34 [.int .i64 0, .string ⟨#[]⟩, .string ⟨#[]⟩, .string ⟨#[]⟩])
  have HX2 := Lib.hid ((Blk.new w 34 [.int .i64 k, .string (ofL n), .string (ofL a), .string (ofL p)]).alloc (.cells #[.int .i64 0, .string ⟨#[]⟩, .string ⟨#[]⟩, .string ⟨#[]⟩] 34))
  have HSP := Lib.hid (fun W => pspace_c c W)
  have HTG : Hid (∀ W, Calls Try.prog 31 #[.agg #[.int .i64 k, .string (ofL n), .string (ofL a), .string (ofL p)]] W (SvV (.agg #[.int .i64 1, .string (ofL n), .string ⟨#[]⟩, .string ⟨#[]⟩]) W)) := Lib.hid (fun W => ptag_c k (ofL n) (ofL a) (ofL p) W)
  have HA4 : Hid (∀ W, Calls Try.prog 76 #[.agg #[.int .i64 k, .string (ofL n), .string (ofL a), .string (ofL p)], .int .i64 4, .string (ofL a)] W (SvV (.agg #[.int .i64 4, .string (ofL n), .string (ofL a), .string ⟨#[]⟩]) W)) := Lib.hid (fun W => pattr_c k 4 (ofL n) (ofL a) (ofL p) (ofL a) W)
  have HA5 : Hid (∀ W, Calls Try.prog 76 #[.agg #[.int .i64 k, .string (ofL n), .string (ofL a), .string (ofL p)], .int .i64 5, .string (ofL a)] W (SvV (.agg #[.int .i64 5, .string (ofL n), .string (ofL a), .string ⟨#[]⟩]) W)) := Lib.hid (fun W => pattr_c k 5 (ofL n) (ofL a) (ofL p) (ofL a) W)
  have HA3 : Hid (∀ W, Calls Try.prog 76 #[.agg #[.int .i64 k, .string (ofL n), .string (ofL a), .string (ofL p)], .int .i64 3, .string (ofL (addL a c))] W (SvV (.agg #[.int .i64 3, .string (ofL n), .string (ofL (addL a c)), .string ⟨#[]⟩]) W)) := Lib.hid (fun W => pattr_c k 3 (ofL n) (ofL a) (ofL p) (ofL (addL a c)) W)
  have HAA := Lib.hid (fun W => padd_c a c W ha)
  go_enter Try.func52, Try.ntmps52
  go_wp2_with (first
    | (go_at_call 75; ((with_reducible refine (HSP.out _).mono ?_); rintro e w1 ⟨rfl, rfl⟩))
    | (go_at_call 31; ((with_reducible refine (HTG.out _).mono ?_); rintro e w2 ⟨rfl, hb⟩; have HB := Lib.hid (HB2.out.trans hb); have HR := Lib.hid (HR2.out.belh hb); clear hb; obtain ⟨r0, r1, r2, r3⟩ := cells4 HR.out; obtain ⟨v0, v1, v2, v3⟩ := frees4 HR.out))
    | (go_at_call 76; ((with_reducible refine (HA4.out _).mono ?_); rintro e w2 ⟨rfl, hb⟩; have HB := Lib.hid (HB2.out.trans hb); have HR := Lib.hid (HR2.out.belh hb); clear hb; obtain ⟨r0, r1, r2, r3⟩ := cells4 HR.out; obtain ⟨v0, v1, v2, v3⟩ := frees4 HR.out))
    | (go_at_call 76; ((with_reducible refine (HA5.out _).mono ?_); rintro e w2 ⟨rfl, hb⟩; have HB := Lib.hid (HB2.out.trans hb); have HR := Lib.hid (HR2.out.belh hb); clear hb; obtain ⟨r0, r1, r2, r3⟩ := cells4 HR.out; obtain ⟨v0, v1, v2, v3⟩ := frees4 HR.out)))
  all_goals first
    | (((with_reducible apply pst_set (k := 4) (g := w.heap.size + 1)); (case hf => rfl); (case hp => rfl); (case hB => exact HR.out); (case hb => exact HB.out); (case hg => omega)); unfold atV; simp only [*, if_true, if_false, Bool.false_eq_true, or_true, true_or, or_self]; done)
    | skip
  all_goals
    first
    | done
    | (
      refine region_begin (T := [w.heap.size + 1]) (by kernel_rfl) ?_
      have HBd := Lib.hid (HB2.out.trans (Bel.drew _))
      have HRd := Lib.hid HR2.out.drew
      have HXd := Lib.hid HX2.out.drew
      generalize ((w.alloc (.cells #[.int .i64 k, .string (ofL n), .string (ofL a), .string (ofL p)] 34)).alloc (.cells #[.int .i64 0, .string ⟨#[]⟩, .string ⟨#[]⟩, .string ⟨#[]⟩] 34)).drew = Wd at HBd HRd HXd ⊢
      have p0 : ∀ X : Later [w.heap.size + 1] Wd, X.w.cell? ⟨w.heap.size, 0, none⟩ = some (.int .i64 k) := fun X => (HXd.out.only X.h (by simp)).cell 0
      have p1 : ∀ X : Later [w.heap.size + 1] Wd, X.w.cell? ⟨w.heap.size, 1, none⟩ = some (.string (ofL n)) := fun X => (HXd.out.only X.h (by simp)).cell 1
      have p2 : ∀ X : Later [w.heap.size + 1] Wd, X.w.cell? ⟨w.heap.size, 2, none⟩ = some (.string (ofL a)) := fun X => (HXd.out.only X.h (by simp)).cell 2
      have p3 : ∀ X : Later [w.heap.size + 1] Wd, X.w.cell? ⟨w.heap.size, 3, none⟩ = some (.string (ofL p)) := fun X => (HXd.out.only X.h (by simp)).cell 3
      refine region_seg [true, true, true, true] 3 (by kernel_rfl) (by kernel_rfl) (by kernel_rfl) rfl (fun _ _ d _ _ h => by cases d <;> exact h) ?_
      repeat (first | with_reducible refine wpMask_pass ?_ | (refine wpMask_want (by rfl) (fun K hK => ?_); go_big_quiet_op; refine hK _ ?_; clear hK K))
      with_reducible refine wpMask_nil ?_
      clear p0 p1 p2 p3
      refine region_call 4 (by kernel_rfl) rfl (by rfl) (by go_simp; exact ⟨rfl, rfl⟩) ?_
      (with_reducible refine (HAA.out _).mono ?_); rintro e w2 ⟨rfl, hb⟩; refine ⟨_, rfl, (Only.refl [w.heap.size + 1] _).join (bel_only hb) (by simp), ?_⟩
      replace HBd := Lib.hid (HBd.out.trans hb)
      replace HRd := Lib.hid (HRd.out.belh hb)
      clear hb
      simp only [List.getElem_toArray, List.getElem_cons_zero, List.getElem_cons_succ, Act.put, List.setIfInBounds_toArray, List.set_cons_zero, List.set_cons_succ]
      refine region_call 5 (by kernel_rfl) rfl (by rfl) (by go_simp; exact ⟨rfl, rfl⟩) ?_
      (with_reducible refine (HA3.out _).mono ?_); rintro e w3 ⟨rfl, hb⟩; refine ⟨_, rfl, (Only.refl [w.heap.size + 1] _).join (bel_only hb) (by simp), ?_⟩
      replace HBd := Lib.hid (HBd.out.trans hb)
      replace HRd := Lib.hid (HRd.out.belh hb)
      clear hb
      simp only [List.getElem_toArray, List.getElem_cons_zero, List.getElem_cons_succ, Act.put, List.setIfInBounds_toArray, List.set_cons_zero, List.set_cons_succ]
      obtain ⟨r0, r1, r2, r3⟩ := cells4 HRd.out
      obtain ⟨v0, v1, v2, v3⟩ := frees4 HRd.out
      refine region_store 6 (w1 := ((((w3.setCell ⟨w.heap.size + 1, 0, none⟩ (.int .i64 3)).setCell ⟨w.heap.size + 1, 1, none⟩ (.string (ofL n))).setCell ⟨w.heap.size + 1, 2, none⟩ (.string (ofL (addL a c)))).setCell ⟨w.heap.size + 1, 3, none⟩ (.string ⟨#[]⟩))) (by kernel_rfl) rfl (by rfl) (by go_simp) (((((Only.refl [w.heap.size + 1] _).setCell (.inl (by simp)) _).setCell (.inl (by simp)) _).setCell (.inl (by simp)) _).setCell (.inl (by simp)) _) ?_
      simp only [List.getElem_toArray, List.getElem_cons_zero, List.getElem_cons_succ, Act.put, List.setIfInBounds_toArray, List.set_cons_zero, List.set_cons_succ]
      refine region_end (by kernel_rfl) ?_
      go_wp2_with fail
      (with_reducible apply pst_set (k := 4) (g := w.heap.size + 1))
      case hf => rfl
      case hp => rfl
      case hB => exact HRd.out
      case hb => exact HBd.out
      case hg => omega
      unfold atV
      simp only [*, if_true, if_false, Bool.false_eq_true, or_true, true_or, or_self, or_false, false_or]
      first | done | rfl)
set_option maxRecDepth 100000 in
set_option maxHeartbeats 3200000 in
theorem pafter_47 (k : Int) (n a p : List UInt8) (w : World) (ha : a.length ≤ 100000) : Calls Try.prog 53 #[stV k (ofL n) (ofL a) (ofL p), .int .u8 47] w (SvV (stV 1 (ofL n) ⟨#[]⟩ ⟨#[]⟩) w) := by
  unfold stV
  have HB2 := Lib.hid ((Bel.alloc w (.cells #[.int .i64 k, .string (ofL n), .string (ofL a), .string (ofL p)] 34)).trans (Bel.alloc (w.alloc (.cells #[.int .i64 k, .string (ofL n), .string (ofL a), .string (ofL p)] 34)) (.cells #[.int .i64 0, .string ⟨#[]⟩, .string ⟨#[]⟩, .string ⟨#[]⟩] 34)))
  have HR2 := Lib.hid (blk_at1h w (.cells #[.int .i64 k, .string (ofL n), .string (ofL a), .string (ofL p)] 34) 34 [.int .i64 0, .string ⟨#[]⟩, .string ⟨#[]⟩, .string ⟨#[]⟩])
  have HSP : Hid (∀ W, Calls Try.prog 75 #[.int .u8 47] W fun e w' => e = .returned (.bool false) ∧ w' = W) := Lib.hid (fun W => pspace_c 47 W)
  have HAT : Hid (∀ W, Calls Try.prog 52 #[.agg #[.int .i64 k, .string (ofL n), .string (ofL a), .string (ofL p)], .int .u8 47] W (SvV (.agg #[.int .i64 1, .string (ofL n), .string ⟨#[]⟩, .string ⟨#[]⟩]) W)) := Lib.hid (fun W => pattrname_c k n a p 47 W ha)
  go_enter Try.func53, Try.ntmps53
  go_wp2_with (first
    | (go_at_call 75; ((with_reducible refine (HSP.out _).mono ?_); rintro e w1 ⟨rfl, rfl⟩))
    | (go_at_call 52; ((with_reducible refine (HAT.out _).mono ?_); rintro e w2 ⟨rfl, hb⟩; have HB := Lib.hid (HB2.out.trans hb); have HR := Lib.hid (HR2.out.belh hb); clear hb; obtain ⟨r0, r1, r2, r3⟩ := cells4 HR.out; obtain ⟨v0, v1, v2, v3⟩ := frees4 HR.out)))
  all_goals (((with_reducible apply pst_set (k := 4) (g := w.heap.size + 1)); (case hf => rfl); (case hp => rfl); (case hB => exact HR.out); (case hb => exact HB.out); (case hg => omega)); rfl)
set_option maxRecDepth 100000 in
set_option maxHeartbeats 3200000 in
theorem pafter_61 (k : Int) (n a p : List UInt8) (w : World) (ha : a.length ≤ 100000) : Calls Try.prog 53 #[stV k (ofL n) (ofL a) (ofL p), .int .u8 61] w (SvV (stV 5 (ofL n) (ofL a) ⟨#[]⟩) w) := by
  unfold stV
  have HB2 := Lib.hid ((Bel.alloc w (.cells #[.int .i64 k, .string (ofL n), .string (ofL a), .string (ofL p)] 34)).trans (Bel.alloc (w.alloc (.cells #[.int .i64 k, .string (ofL n), .string (ofL a), .string (ofL p)] 34)) (.cells #[.int .i64 0, .string ⟨#[]⟩, .string ⟨#[]⟩, .string ⟨#[]⟩] 34)))
  have HR2 := Lib.hid (blk_at1h w (.cells #[.int .i64 k, .string (ofL n), .string (ofL a), .string (ofL p)] 34) 34 [.int .i64 0, .string ⟨#[]⟩, .string ⟨#[]⟩, .string ⟨#[]⟩])
  have HSP : Hid (∀ W, Calls Try.prog 75 #[.int .u8 61] W fun e w' => e = .returned (.bool false) ∧ w' = W) := Lib.hid (fun W => pspace_c 61 W)
  have HAT : Hid (∀ W, Calls Try.prog 52 #[.agg #[.int .i64 k, .string (ofL n), .string (ofL a), .string (ofL p)], .int .u8 61] W (SvV (.agg #[.int .i64 5, .string (ofL n), .string (ofL a), .string ⟨#[]⟩]) W)) := Lib.hid (fun W => pattrname_c k n a p 61 W ha)
  go_enter Try.func53, Try.ntmps53
  go_wp2_with (first
    | (go_at_call 75; ((with_reducible refine (HSP.out _).mono ?_); rintro e w1 ⟨rfl, rfl⟩))
    | (go_at_call 52; ((with_reducible refine (HAT.out _).mono ?_); rintro e w2 ⟨rfl, hb⟩; have HB := Lib.hid (HB2.out.trans hb); have HR := Lib.hid (HR2.out.belh hb); clear hb; obtain ⟨r0, r1, r2, r3⟩ := cells4 HR.out; obtain ⟨v0, v1, v2, v3⟩ := frees4 HR.out)))
  all_goals (((with_reducible apply pst_set (k := 4) (g := w.heap.size + 1)); (case hf => rfl); (case hp => rfl); (case hB => exact HR.out); (case hb => exact HB.out); (case hg => omega)); rfl)
set_option maxRecDepth 100000 in
set_option maxHeartbeats 3200000 in
theorem pafter_rest (k : Int) (n a p : List UInt8) (c : UInt8) (w : World) (h47 : ((c.toNat : Int) == 47) = false) (h61 : ((c.toNat : Int) == 61) = false) : Calls Try.prog 53 #[stV k (ofL n) (ofL a) (ofL p), .int .u8 c.toNat] w (SvV (afV k n a p c) w) := by
  unfold stV
  have HB2 := Lib.hid ((Bel.alloc w (.cells #[.int .i64 k, .string (ofL n), .string (ofL a), .string (ofL p)] 34)).trans (Bel.alloc (w.alloc (.cells #[.int .i64 k, .string (ofL n), .string (ofL a), .string (ofL p)] 34)) (.cells #[.int .i64 0, .string ⟨#[]⟩, .string ⟨#[]⟩, .string ⟨#[]⟩] 34)))
  have HR2 := Lib.hid (blk_at1h w (.cells #[.int .i64 k, .string (ofL n), .string (ofL a), .string (ofL p)] 34) 34 [.int .i64 0, .string ⟨#[]⟩, .string ⟨#[]⟩, .string ⟨#[]⟩])
  have HX2 := Lib.hid ((Blk.new w 34 [.int .i64 k, .string (ofL n), .string (ofL a), .string (ofL p)]).alloc (.cells #[.int .i64 0, .string ⟨#[]⟩, .string ⟨#[]⟩, .string ⟨#[]⟩] 34))
  have HSP := Lib.hid (fun W => pspace_c c W)
  have HA0 := Lib.hid (fun W => padd_c [] c W (by simp))
  rw [ofL_nil] at HA0
  have HA3 : Hid (∀ W, Calls Try.prog 76 #[.agg #[.int .i64 k, .string (ofL n), .string (ofL a), .string (ofL p)], .int .i64 3, .string (ofL (addL [] c))] W (SvV (.agg #[.int .i64 3, .string (ofL n), .string (ofL (addL [] c)), .string ⟨#[]⟩]) W)) := Lib.hid (fun W => pattr_c k 3 (ofL n) (ofL a) (ofL p) (ofL (addL [] c)) W)
  go_enter Try.func53, Try.ntmps53
  go_wp2_with (go_at_call 75; ((with_reducible refine (HSP.out _).mono ?_); rintro e w1 ⟨rfl, rfl⟩))
  all_goals first
    | (((with_reducible apply pst_new (k := 4) (g := w.heap.size + 1)); (case hf => rfl); (case hp => rfl); (case hg => simp); (case hb => exact (Bel.alloc _ _).trans (Bel.alloc _ _))); unfold afV; simp only [*, if_true, if_false, Bool.false_eq_true, or_true, true_or, or_self]; done)
    | skip
  all_goals
    first
    | done
    | (
      refine region_begin (T := [w.heap.size + 1]) (by kernel_rfl) ?_
      have HBd := Lib.hid (HB2.out.trans (Bel.drew _))
      have HRd := Lib.hid HR2.out.drew
      have HXd := Lib.hid HX2.out.drew
      generalize ((w.alloc (.cells #[.int .i64 k, .string (ofL n), .string (ofL a), .string (ofL p)] 34)).alloc (.cells #[.int .i64 0, .string ⟨#[]⟩, .string ⟨#[]⟩, .string ⟨#[]⟩] 34)).drew = Wd at HBd HRd HXd ⊢
      have p0 : ∀ X : Later [w.heap.size + 1] Wd, X.w.cell? ⟨w.heap.size, 0, none⟩ = some (.int .i64 k) := fun X => (HXd.out.only X.h (by simp)).cell 0
      have p1 : ∀ X : Later [w.heap.size + 1] Wd, X.w.cell? ⟨w.heap.size, 1, none⟩ = some (.string (ofL n)) := fun X => (HXd.out.only X.h (by simp)).cell 1
      have p2 : ∀ X : Later [w.heap.size + 1] Wd, X.w.cell? ⟨w.heap.size, 2, none⟩ = some (.string (ofL a)) := fun X => (HXd.out.only X.h (by simp)).cell 2
      have p3 : ∀ X : Later [w.heap.size + 1] Wd, X.w.cell? ⟨w.heap.size, 3, none⟩ = some (.string (ofL p)) := fun X => (HXd.out.only X.h (by simp)).cell 3
      refine region_seg [true, true] 3 (by kernel_rfl) (by kernel_rfl) (by kernel_rfl) rfl (fun _ _ d _ _ h => by cases d <;> exact h) ?_
      repeat (first | with_reducible refine wpMask_pass ?_ | (refine wpMask_want (by rfl) (fun K hK => ?_); go_big_quiet_op; refine hK _ ?_; clear hK K))
      with_reducible refine wpMask_nil ?_
      clear p0 p1 p2 p3
      refine region_call 2 (by kernel_rfl) rfl (by rfl) (by go_simp; exact ⟨rfl, rfl⟩) ?_
      (with_reducible refine (HA0.out _).mono ?_); rintro e w2 ⟨rfl, hb⟩; refine ⟨_, rfl, (Only.refl [w.heap.size + 1] _).join (bel_only hb) (by simp), ?_⟩
      replace HBd := Lib.hid (HBd.out.trans hb)
      replace HRd := Lib.hid (HRd.out.belh hb)
      clear hb
      simp only [List.getElem_toArray, List.getElem_cons_zero, List.getElem_cons_succ, Act.put, List.setIfInBounds_toArray, List.set_cons_zero, List.set_cons_succ]
      refine region_call 3 (by kernel_rfl) rfl (by rfl) (by go_simp; exact ⟨rfl, rfl⟩) ?_
      (with_reducible refine (HA3.out _).mono ?_); rintro e w3 ⟨rfl, hb⟩; refine ⟨_, rfl, (Only.refl [w.heap.size + 1] _).join (bel_only hb) (by simp), ?_⟩
      replace HBd := Lib.hid (HBd.out.trans hb)
      replace HRd := Lib.hid (HRd.out.belh hb)
      clear hb
      simp only [List.getElem_toArray, List.getElem_cons_zero, List.getElem_cons_succ, Act.put, List.setIfInBounds_toArray, List.set_cons_zero, List.set_cons_succ]
      obtain ⟨r0, r1, r2, r3⟩ := cells4 HRd.out
      obtain ⟨v0, v1, v2, v3⟩ := frees4 HRd.out
      refine region_store 4 (w1 := ((((w3.setCell ⟨w.heap.size + 1, 0, none⟩ (.int .i64 3)).setCell ⟨w.heap.size + 1, 1, none⟩ (.string (ofL n))).setCell ⟨w.heap.size + 1, 2, none⟩ (.string (ofL (addL [] c)))).setCell ⟨w.heap.size + 1, 3, none⟩ (.string ⟨#[]⟩))) (by kernel_rfl) rfl (by rfl) (by go_simp) (((((Only.refl [w.heap.size + 1] _).setCell (.inl (by simp)) _).setCell (.inl (by simp)) _).setCell (.inl (by simp)) _).setCell (.inl (by simp)) _) ?_
      simp only [List.getElem_toArray, List.getElem_cons_zero, List.getElem_cons_succ, Act.put, List.setIfInBounds_toArray, List.set_cons_zero, List.set_cons_succ]
      refine region_end (by kernel_rfl) ?_
      go_wp2_with fail
      (with_reducible apply pst_set (k := 4) (g := w.heap.size + 1))
      case hf => rfl
      case hp => rfl
      case hB => exact HRd.out
      case hb => exact HBd.out
      case hg => omega
      unfold afV
      simp only [*, if_true, if_false, Bool.false_eq_true, or_true, true_or, or_self, or_false, false_or]
      first | done | rfl)
theorem pafter_c (k : Int) (n a p : List UInt8) (c : UInt8) (w : World) (ha : a.length ≤ 100000) : Calls Try.prog 53 #[stV k (ofL n) (ofL a) (ofL p), .int .u8 c.toNat] w (SvV (afV k n a p c) w) := by
  by_cases h1 : c = 47
  · subst h1; exact pafter_47 k n a p w ha
  by_cases h2 : c = 61
  · subst h2; exact pafter_61 k n a p w ha
  exact pafter_rest k n a p c w (cf h1 47 rfl) (cf h2 61 rfl)
set_option maxRecDepth 100000 in
set_option maxHeartbeats 3200000 in
theorem pbefore_c (k : Int) (n a p : List UInt8) (c : UInt8) (w : World) (ha : a.length ≤ 100000) : Calls Try.prog 54 #[stV k (ofL n) (ofL a) (ofL p), .int .u8 c.toNat] w (SvV (bvV k n a p c) w) := by
  unfold stV
  have HB2 := Lib.hid ((Bel.alloc w (.cells #[.int .i64 k, .string (ofL n), .string (ofL a), .string (ofL p)] 34)).trans (Bel.alloc (w.alloc (.cells #[.int .i64 k, .string (ofL n), .string (ofL a), .string (ofL p)] 34)) (.cells #[.int .i64 0, .string ⟨#[]⟩, .string ⟨#[]⟩, .string ⟨#[]⟩] 34)))
  have HR2 := Lib.hid (blk_at1h w (.cells #[.int .i64 k, .string (ofL n), .string (ofL a), .string (ofL p)] 34) 34 [.int .i64 0, .string ⟨#[]⟩, .string ⟨#[]⟩, .string ⟨#[]⟩])
  have HX2 := Lib.hid ((Blk.new w 34 [.int .i64 k, .string (ofL n), .string (ofL a), .string (ofL p)]).alloc (.cells #[.int .i64 0, .string ⟨#[]⟩, .string ⟨#[]⟩, .string ⟨#[]⟩] 34))
  have HSP := Lib.hid (fun W => pspace_c c W)
  have HQ1 : Hid (∀ W, Calls Try.prog 77 #[.string (ofL a), .int .i64 9, .int .i64 11, .int .i64 7] W fun e w' => e = .returned (.int .i64 (quotedC a 34 : Nat)) ∧ w' = W) := Lib.hid (fun W => by have h := pquoted_c a 9 11 7 W ha; rw [quot_dq] at h; exact h)
  have HQ2 : Hid (∀ W, Calls Try.prog 77 #[.string (ofL a), .int .i64 10, .int .i64 12, .int .i64 8] W fun e w' => e = .returned (.int .i64 (quotedC a 39 : Nat)) ∧ w' = W) := Lib.hid (fun W => by have h := pquoted_c a 10 12 8 W ha; rw [quot_sq] at h; exact h)
  go_enter Try.func54, Try.ntmps54
  go_wp2_with (go_at_call 75; ((with_reducible refine (HSP.out _).mono ?_); rintro e w1 ⟨rfl, rfl⟩))
  all_goals first
    | (((with_reducible apply pst_new (k := 4) (g := w.heap.size + 1)); (case hf => rfl); (case hp => rfl); (case hg => simp); (case hb => exact (Bel.alloc _ _).trans (Bel.alloc _ _))); unfold bvV; simp only [*, if_true, if_false, Bool.false_eq_true, or_true, true_or, or_self]; done)
    | skip
  all_goals
    first
    | done
    | (
      refine region_begin (T := [w.heap.size + 1]) (by kernel_rfl) ?_
      have HBd := Lib.hid (HB2.out.trans (Bel.drew _))
      have HRd := Lib.hid HR2.out.drew
      have HXd := Lib.hid HX2.out.drew
      generalize ((w.alloc (.cells #[.int .i64 k, .string (ofL n), .string (ofL a), .string (ofL p)] 34)).alloc (.cells #[.int .i64 0, .string ⟨#[]⟩, .string ⟨#[]⟩, .string ⟨#[]⟩] 34)).drew = Wd at HBd HRd HXd ⊢
      have p0 : ∀ X : Later [w.heap.size + 1] Wd, X.w.cell? ⟨w.heap.size, 0, none⟩ = some (.int .i64 k) := fun X => (HXd.out.only X.h (by simp)).cell 0
      have p1 : ∀ X : Later [w.heap.size + 1] Wd, X.w.cell? ⟨w.heap.size, 1, none⟩ = some (.string (ofL n)) := fun X => (HXd.out.only X.h (by simp)).cell 1
      have p2 : ∀ X : Later [w.heap.size + 1] Wd, X.w.cell? ⟨w.heap.size, 2, none⟩ = some (.string (ofL a)) := fun X => (HXd.out.only X.h (by simp)).cell 2
      have p3 : ∀ X : Later [w.heap.size + 1] Wd, X.w.cell? ⟨w.heap.size, 3, none⟩ = some (.string (ofL p)) := fun X => (HXd.out.only X.h (by simp)).cell 3
      refine region_seg [true, true, false, true, true] 3 (by kernel_rfl) (by kernel_rfl) (by kernel_rfl) rfl (fun _ _ d _ _ h => by cases d <;> exact h) ?_
      repeat (first | with_reducible refine wpMask_pass ?_ | (refine wpMask_want (by rfl) (fun K hK => ?_); go_big_quiet_op; refine hK _ ?_; clear hK K))
      with_reducible refine wpMask_nil ?_
      clear p0 p1 p2 p3
      refine region_call 2 (by kernel_rfl) rfl (by rfl) (by go_simp; exact ⟨rfl, rfl⟩) ?_
      (with_reducible refine (HQ1.out _).mono ?_); rintro e w9 ⟨rfl, hq⟩; rw [hq]; clear hq w9; refine ⟨_, rfl, Only.refl _ _, ?_⟩
      simp only [List.getElem_toArray, List.getElem_cons_zero, List.getElem_cons_succ, Act.put, List.setIfInBounds_toArray, List.set_cons_zero, List.set_cons_succ]
      refine region_make 5 (v := .agg #[.int .i64 (quotedC a 34 : Nat), .string (ofL n), .string ⟨#[]⟩, .string ⟨#[]⟩]) (w1 := Wd) (by kernel_rfl) rfl (by rfl) (by go_simp) (Only.refl _ _) ?_
      simp only [List.getElem_toArray, List.getElem_cons_zero, List.getElem_cons_succ, Act.put, List.setIfInBounds_toArray, List.set_cons_zero, List.set_cons_succ]
      obtain ⟨r0, r1, r2, r3⟩ := cells4 HRd.out
      obtain ⟨v0, v1, v2, v3⟩ := frees4 HRd.out
      refine region_store 6 (w1 := ((((Wd.setCell ⟨w.heap.size + 1, 0, none⟩ (.int .i64 (quotedC a 34 : Nat))).setCell ⟨w.heap.size + 1, 1, none⟩ (.string (ofL n))).setCell ⟨w.heap.size + 1, 2, none⟩ (.string ⟨#[]⟩)).setCell ⟨w.heap.size + 1, 3, none⟩ (.string ⟨#[]⟩))) (by kernel_rfl) rfl (by rfl) (by go_simp) (((((Only.refl [w.heap.size + 1] _).setCell (.inl (by simp)) _).setCell (.inl (by simp)) _).setCell (.inl (by simp)) _).setCell (.inl (by simp)) _) ?_
      simp only [List.getElem_toArray, List.getElem_cons_zero, List.getElem_cons_succ, Act.put, List.setIfInBounds_toArray, List.set_cons_zero, List.set_cons_succ]
      refine region_end (by kernel_rfl) ?_
      go_wp2_with fail
      (with_reducible apply pst_set (k := 4) (g := w.heap.size + 1))
      case hf => rfl
      case hp => rfl
      case hB => exact HRd.out
      case hb => exact HBd.out
      case hg => omega
      unfold bvV
      simp only [*, if_true, if_false, Bool.false_eq_true, or_true, true_or, or_self, or_false, false_or]
      first | done | rfl)
    | (
      refine region_begin (T := [w.heap.size + 1]) (by kernel_rfl) ?_
      have HBd := Lib.hid (HB2.out.trans (Bel.drew _))
      have HRd := Lib.hid HR2.out.drew
      have HXd := Lib.hid HX2.out.drew
      generalize ((w.alloc (.cells #[.int .i64 k, .string (ofL n), .string (ofL a), .string (ofL p)] 34)).alloc (.cells #[.int .i64 0, .string ⟨#[]⟩, .string ⟨#[]⟩, .string ⟨#[]⟩] 34)).drew = Wd at HBd HRd HXd ⊢
      have p0 : ∀ X : Later [w.heap.size + 1] Wd, X.w.cell? ⟨w.heap.size, 0, none⟩ = some (.int .i64 k) := fun X => (HXd.out.only X.h (by simp)).cell 0
      have p1 : ∀ X : Later [w.heap.size + 1] Wd, X.w.cell? ⟨w.heap.size, 1, none⟩ = some (.string (ofL n)) := fun X => (HXd.out.only X.h (by simp)).cell 1
      have p2 : ∀ X : Later [w.heap.size + 1] Wd, X.w.cell? ⟨w.heap.size, 2, none⟩ = some (.string (ofL a)) := fun X => (HXd.out.only X.h (by simp)).cell 2
      have p3 : ∀ X : Later [w.heap.size + 1] Wd, X.w.cell? ⟨w.heap.size, 3, none⟩ = some (.string (ofL p)) := fun X => (HXd.out.only X.h (by simp)).cell 3
      refine region_seg [true, true, false, true, true] 3 (by kernel_rfl) (by kernel_rfl) (by kernel_rfl) rfl (fun _ _ d _ _ h => by cases d <;> exact h) ?_
      repeat (first | with_reducible refine wpMask_pass ?_ | (refine wpMask_want (by rfl) (fun K hK => ?_); go_big_quiet_op; refine hK _ ?_; clear hK K))
      with_reducible refine wpMask_nil ?_
      clear p0 p1 p2 p3
      refine region_call 2 (by kernel_rfl) rfl (by rfl) (by go_simp; exact ⟨rfl, rfl⟩) ?_
      (with_reducible refine (HQ2.out _).mono ?_); rintro e w9 ⟨rfl, hq⟩; rw [hq]; clear hq w9; refine ⟨_, rfl, Only.refl _ _, ?_⟩
      simp only [List.getElem_toArray, List.getElem_cons_zero, List.getElem_cons_succ, Act.put, List.setIfInBounds_toArray, List.set_cons_zero, List.set_cons_succ]
      refine region_make 5 (v := .agg #[.int .i64 (quotedC a 39 : Nat), .string (ofL n), .string ⟨#[]⟩, .string ⟨#[]⟩]) (w1 := Wd) (by kernel_rfl) rfl (by rfl) (by go_simp) (Only.refl _ _) ?_
      simp only [List.getElem_toArray, List.getElem_cons_zero, List.getElem_cons_succ, Act.put, List.setIfInBounds_toArray, List.set_cons_zero, List.set_cons_succ]
      obtain ⟨r0, r1, r2, r3⟩ := cells4 HRd.out
      obtain ⟨v0, v1, v2, v3⟩ := frees4 HRd.out
      refine region_store 6 (w1 := ((((Wd.setCell ⟨w.heap.size + 1, 0, none⟩ (.int .i64 (quotedC a 39 : Nat))).setCell ⟨w.heap.size + 1, 1, none⟩ (.string (ofL n))).setCell ⟨w.heap.size + 1, 2, none⟩ (.string ⟨#[]⟩)).setCell ⟨w.heap.size + 1, 3, none⟩ (.string ⟨#[]⟩))) (by kernel_rfl) rfl (by rfl) (by go_simp) (((((Only.refl [w.heap.size + 1] _).setCell (.inl (by simp)) _).setCell (.inl (by simp)) _).setCell (.inl (by simp)) _).setCell (.inl (by simp)) _) ?_
      simp only [List.getElem_toArray, List.getElem_cons_zero, List.getElem_cons_succ, Act.put, List.setIfInBounds_toArray, List.set_cons_zero, List.set_cons_succ]
      refine region_end (by kernel_rfl) ?_
      go_wp2_with fail
      (with_reducible apply pst_set (k := 4) (g := w.heap.size + 1))
      case hf => rfl
      case hp => rfl
      case hB => exact HRd.out
      case hb => exact HBd.out
      case hg => omega
      unfold bvV
      simp only [*, if_true, if_false, Bool.false_eq_true, or_true, true_or, or_self, or_false, false_or]
      first | done | rfl)
end Go.Proofs.Yteclclidibmajaa

namespace Go.Proofs.Yteclclidibmajaa
open Go.RowKit Go.BigFrame
set_option linter.unusedVariables false
set_option linter.unusedSimpArgs false
set_option maxRecDepth 100000

theorem bel_setp' {w w1 : World} {b : Nat} (h : Bel w w1) (hb : w.heap.size ≤ b) (i : Nat) (v : Value) : Bel w (w1.setCell ⟨b, i, none⟩ v) := bel_on1 h ((Only.refl [b] _).setCell (.inl (by simp)) _) hb
/-- The end of 'elementOf'. -/
theorem pel_new {f : Func} {k g : Nat} {tmps : Array Value} {w w1 : World} {v0 v1 v2 v3 : Value} {v : Value} (hf : f.results = #[.cell k 81]) (hp : tmps.getD k undef = .pointer (some ⟨g, 0, none⟩)) (hg : g = w1.heap.size)
    (he : Value.agg #[v0, v1, v2, v3] = v) (hb : Bel w (w1.alloc (.cells #[v0, v1, v2, v3] 81))) : bodyPost Try.prog f (SvV v w) .ret { tmps := tmps, defers := [] } (w1.alloc (.cells #[v0, v1, v2, v3] 81)) := by
  subst hg
  refine bodyPost_ret (results_cell_row hf _ _ w1.heap.size _ _ (0, 0) _ hp (Blk.new w1 81 [v0, v1, v2, v3]) Try.underlying81 rfl (by kernel_rfl)) rfl ?_
  exact ⟨by rw [← he], hb⟩
set_option maxRecDepth 100000 in
theorem pelem16_c (k : Int) (hk : k = 16 ∨ k = 17 ∨ k = 18) (w : World) : Calls Try.prog 57 #[.int .i64 k] w (SvV (.agg #[.string ⟨#[60, 47, 115, 99, 114, 105, 112, 116]⟩, .int .i64 16, .int .i64 17, .int .i64 18]) w) := by
  rcases hk with rfl | rfl | rfl
  all_goals
    go_enter Try.func57, Try.ntmps57
    go_wp2_with fail
    exact pel_new rfl rfl rfl rfl (Bel.alloc _ _)
set_option maxRecDepth 100000 in
theorem pelem19_c (k : Int) (hk : k = 19 ∨ k = 20 ∨ k = 21) (w : World) : Calls Try.prog 57 #[.int .i64 k] w (SvV (.agg #[.string ⟨#[60, 47, 115, 116, 121, 108, 101]⟩, .int .i64 19, .int .i64 20, .int .i64 21]) w) := by
  rcases hk with rfl | rfl | rfl
  all_goals
    go_enter Try.func57, Try.ntmps57
    go_wp2_with fail
    exact pel_new rfl rfl rfl rfl (Bel.alloc _ _)
/-- 'stepCode' and 'stepString' as plain data. -/
def codeS (k d s : Nat) (c : UInt8) : HS := if c = 34 then s0 d else if c = 39 then s0 s else s0 k
def strS (k : Nat) (p : List UInt8) (c q : UInt8) (code : Nat) : HS := if p = [92] then s0 k else if c = q ∨ c = 10 then s0 code else if c = 92 then ⟨k, [], [], [92]⟩ else s0 k
theorem code_w (k d s : Nat) (c : UInt8) : codeS k d s c = if ((c.toNat : Int) == 34) = true then s0 d else if ((c.toNat : Int) == 39) = true then s0 s else s0 k := by
  have h34 : c = 34 ↔ ((c.toNat : Int) == 34) = true := by rw [u8_iff, beq_iff_eq]; rfl
  have h39 : c = 39 ↔ ((c.toNat : Int) == 39) = true := by rw [u8_iff, beq_iff_eq]; rfl
  unfold codeS
  simp only [← h34, ← h39]
theorem str_w (k : Nat) (p : List UInt8) (c q : UInt8) (code : Nat) : strS k p c q code = if ((ofL p).toList == [92]) = true then s0 k else if ((c.toNat : Int) == (q.toNat : Int)) = true ∨ ((c.toNat : Int) == 10) = true then s0 code else if ((c.toNat : Int) == 92) = true then ⟨k, [], [], [92]⟩ else s0 k := by
  have hq : c = q ↔ ((c.toNat : Int) == (q.toNat : Int)) = true := by rw [u8_iff, beq_iff_eq]
  have h10 : c = 10 ↔ ((c.toNat : Int) == 10) = true := by rw [u8_iff, beq_iff_eq]; rfl
  have h92 : c = 92 ↔ ((c.toNat : Int) == 92) = true := by rw [u8_iff, beq_iff_eq]; rfl
  unfold strS
  simp only [ofL_list, beq_iff_eq (a := p), ← hq, ← h10, ← h92]
set_option maxRecDepth 100000 in
theorem pcode_c (E : ByteArray) (k d s : Nat) (c : UInt8) (w : World) : Calls Try.prog 60 #[.int .u8 c.toNat, .agg #[.string E, .int .i64 (k : Nat), .int .i64 (d : Nat), .int .i64 (s : Nat)]] w (SvP (codeS k d s c) w) := by
  go_enter Try.func60, Try.ntmps60
  go_wp2_with fail
  all_goals refine pst_new rfl rfl (by simp) ?_ ((Bel.alloc _ _).trans (Bel.alloc _ _))
  all_goals rw [code_w]
  all_goals first
    | (simp only [*, if_true, if_false, Bool.false_eq_true]; rfl)
    | trace_state
set_option maxRecDepth 100000 in
set_option maxHeartbeats 3200000 in
theorem pstring_c (k code : Nat) (n a : ByteArray) (p : List UInt8) (c q : UInt8) (w : World) : Calls Try.prog 59 #[.agg #[.int .i64 (k : Nat), .string n, .string a, .string (ofL p)], .int .u8 c.toNat, .int .u8 q.toNat, .int .i64 (code : Nat)] w (SvP (strS k p c q code) w) := by
  go_enter Try.func59, Try.ntmps59
  go_wp2_with fail
  all_goals refine pst_new rfl rfl (by simp) ?_ ((Bel.alloc _ _).trans (Bel.alloc _ _))
  all_goals rw [str_w]
  all_goals first
    | (simp only [*, beq_self_eq_true, if_true, if_false, Bool.false_eq_true, true_or, or_true, or_self]; rfl)
    | (exfalso; simp_all; done)
    | trace_state
/-- The answer is a state and a bool. -/
def SvB (v : Value) (b : Bool) (w : World) (e : Ending) (w' : World) : Prop := e = .returned (.tuple #[v, .bool b]) ∧ Bel w w'
theorem results_row_tmp15 {P : Program} {fn : Func} {p u : Tmp} {ty : TypeId} (h : fn.results = #[.cell p ty, .tmp u]) (tmps : Array Value) (w : World) (g : Nat) (t : TypeId) (cs : Array Value) (fr : Nat × Nat) (d : TypeDesc)
    (hp : tmps.getD p undef = .pointer (some ⟨g, 0, none⟩)) (hg : w.heap[g]? = some (.cells cs t fr)) (hu : P.underlying ty = some d) (hd : (match d with | .struct _ | .array _ _ => true | _ => false) = true) (hi : (P.info? ty).map (·.size) = some cs.size) :
    (results fn tmps).run P w = .ok (.tuple #[.agg cs, tmps.getD u undef]) w := by
  rw [results_cell_tmp h, hp]
  simp only [asAddr, Sem.run_pure, Result.andThen_ok, run_loadVar_row w g t ty cs fr d hg hu hd hi]
theorem pend_new {f : Func} {k u g : Nat} {tmps : Array Value} {w w1 : World} {v0 v1 v2 v3 : Value} {v : Value} {b : Bool} (hf : f.results = #[.cell k 34, .tmp u]) (hp : tmps.getD k undef = .pointer (some ⟨g, 0, none⟩)) (hu : tmps.getD u undef = .bool b) (hg : g = w1.heap.size)
    (he : Value.agg #[v0, v1, v2, v3] = v) (hb : Bel w (w1.alloc (.cells #[v0, v1, v2, v3] 34))) : bodyPost Try.prog f (SvB v b w) .ret { tmps := tmps, defers := [] } (w1.alloc (.cells #[v0, v1, v2, v3] 34)) := by
  subst hg
  refine bodyPost_ret (results_row_tmp15 hf _ _ w1.heap.size _ _ (0, 0) _ hp (Blk.new w1 34 [v0, v1, v2, v3]) Try.underlying34 rfl (by kernel_rfl)) rfl ?_
  exact ⟨by rw [← he, hu], hb⟩
theorem pend_set {f : Func} {k u g : Nat} {tmps : Array Value} {w w1 : World} {a0 a1 a2 a3 v0 v1 v2 v3 : Value} {v : Value} {b : Bool} (hf : f.results = #[.cell k 34, .tmp u]) (hp : tmps.getD k undef = .pointer (some ⟨g, 0, none⟩)) (hu : tmps.getD u undef = .bool b)
    (he : Value.agg #[v0, v1, v2, v3] = v) (hB : Blk w1 g 34 [a0, a1, a2, a3]) (hb : Bel w w1) (hg : w.heap.size ≤ g) :
    bodyPost Try.prog f (SvB v b w) .ret { tmps := tmps, defers := [] } ((((w1.setCell ⟨g, 0, none⟩ v0).setCell ⟨g, 1, none⟩ v1).setCell ⟨g, 2, none⟩ v2).setCell ⟨g, 3, none⟩ v3) := by
  have h1 := (((hB.set_ 0 v0).set_ 1 v1).set_ 2 v2).set_ 3 v3
  simp only [List.set_cons_succ, List.set_cons_zero] at h1
  refine bodyPost_ret (results_row_tmp15 hf _ _ g _ _ (0, 0) _ hp h1 Try.underlying34 rfl (by kernel_rfl)) rfl ?_
  exact ⟨by rw [← he, hu], bel_on1 hb (((((Only.refl [g] w1).setCell (.inl (by simp)) _).setCell (.inl (by simp)) _).setCell (.inl (by simp)) _).setCell (.inl (by simp)) _) hg⟩
/-- 'stepEnd' in the words of a walk: the state and whether it is one. -/
def endS (k : Nat) (p : List UInt8) (c : UInt8) (E : List UInt8) : HS :=
  if preB p [60] = true then
    if ((ofL (p ++ [lowB c])).toList == (ofL E).toList) = true then s0 15
    else if preB E (p ++ [lowB c]) = true then ⟨k, [], [], p ++ [lowB c]⟩
    else if ((c.toNat : Int) == 60) = true then ⟨k, [], [], [60]⟩ else s0 0
  else if ((c.toNat : Int) == 60) = true then ⟨k, [], [], [60]⟩ else s0 0
def endB (p : List UInt8) (c : UInt8) (E : List UInt8) : Bool :=
  if preB p [60] = true then
    if ((ofL (p ++ [lowB c])).toList == (ofL E).toList) = true then true
    else if preB E (p ++ [lowB c]) = true then true
    else if ((c.toNat : Int) == 60) = true then true else false
  else if ((c.toNat : Int) == 60) = true then true else false
set_option maxRecDepth 100000 in
set_option maxHeartbeats 3200000 in
theorem pend_c (k : Nat) (n a : ByteArray) (p E : List UInt8) (c : UInt8) (w : World) (hp : p.length ≤ 1000) (hE : E.length ≤ 1000) :
    Calls Try.prog 58 #[.agg #[.int .i64 (k : Nat), .string n, .string a, .string (ofL p)], .int .u8 c.toNat, .string (ofL E)] w (SvB (endS k p c E).val (endB p c E) w) := by
  have HB2 := Lib.hid ((Bel.alloc w (.cells #[.int .i64 (k : Nat), .string n, .string a, .string (ofL p)] 34)).trans (Bel.alloc (w.alloc (.cells #[.int .i64 (k : Nat), .string n, .string a, .string (ofL p)] 34)) (.cells #[.int .i64 0, .string ⟨#[]⟩, .string ⟨#[]⟩, .string ⟨#[]⟩] 34)))
  have HR2 := Lib.hid (blk_at1h w (.cells #[.int .i64 (k : Nat), .string n, .string a, .string (ofL p)] 34) 34 [.int .i64 0, .string ⟨#[]⟩, .string ⟨#[]⟩, .string ⟨#[]⟩])
  have HX2 := Lib.hid ((Blk.new w 34 [.int .i64 (k : Nat), .string n, .string a, .string (ofL p)]).alloc (.cells #[.int .i64 0, .string ⟨#[]⟩, .string ⟨#[]⟩, .string ⟨#[]⟩] 34))
  have hz : (ofL p).size = p.length := rfl
  have HL := Lib.hid (fun W => plower_c c W)
  have HP1 : Hid (∀ W, Calls Try.prog 78 #[.string (ofL p), .string ⟨#[60]⟩] W fun e w' => e = .returned (.bool (preB p [60])) ∧ w' = W) := Lib.hid (fun W => hasPre_c p [60] W (by omega) (by decide))
  have HP2 := Lib.hid (fun W => hasPre_c E (p ++ [lowB c]) W (by omega) (by rw [List.length_append]; simp; omega))
  by_cases hpre : preB p [60] = true
  · rw [hpre] at HP1
    go_enter Try.func58, Try.ntmps58
    go_wp2_with (go_at_call 78; ((with_reducible refine (HP1.out _).mono ?_); rintro e w1 ⟨rfl, hw⟩; rw [hw]; clear hw w1))
    refine region_begin (T := []) (by kernel_rfl) ?_
    have HBd := Lib.hid (HB2.out.trans (Bel.drew _))
    have HRd := Lib.hid HR2.out.drew
    have HXd := Lib.hid HX2.out.drew
    generalize ((w.alloc (.cells #[.int .i64 (k : Nat), .string n, .string a, .string (ofL p)] 34)).alloc (.cells #[.int .i64 0, .string ⟨#[]⟩, .string ⟨#[]⟩, .string ⟨#[]⟩] 34)).drew = Wd at HBd HRd HXd ⊢
    have p0 : ∀ X : Later [] Wd, X.w.cell? ⟨w.heap.size, 0, none⟩ = some (.int .i64 (k : Nat)) := fun X => (HXd.out.only X.h (by simp)).cell 0
    have p3 : ∀ X : Later [] Wd, X.w.cell? ⟨w.heap.size, 3, none⟩ = some (.string (ofL p)) := fun X => (HXd.out.only X.h (by simp)).cell 3
    refine region_seg [true, true, true] 5 (by kernel_rfl) (by kernel_rfl) (by kernel_rfl) rfl (fun _ _ d _ _ h => by cases d <;> exact h) ?_
    repeat (first | with_reducible refine wpMask_pass ?_ | (refine wpMask_want (by rfl) (fun K hK => ?_); go_big_quiet_op; refine hK _ ?_; clear hK K))
    with_reducible refine wpMask_nil ?_
    clear p0 p3
    refine region_call 3 (by kernel_rfl) rfl (by rfl) (by go_simp; exact ⟨rfl, rfl⟩) ?_
    (with_reducible refine (HL.out _).mono ?_); rintro e w9 ⟨rfl, hq⟩; rw [hq]; clear hq w9; refine ⟨_, rfl, Only.refl _ _, ?_⟩
    simp only [List.getElem_toArray, List.getElem_cons_zero, List.getElem_cons_succ, Act.put, List.setIfInBounds_toArray, List.set_cons_zero, List.set_cons_succ]
    refine region_make 4 (v := .slice (some ⟨Wd.heap.size, 0, none⟩) 1 1) (w1 := Wd.alloc (.cells #[.int .u8 (lowB c).toNat] 5)) (by kernel_rfl) rfl (by rfl) (by go_simp) ((Only.refl _ _).alloc _) ?_
    simp only [List.getElem_toArray, List.getElem_cons_zero, List.getElem_cons_succ, Act.put, List.setIfInBounds_toArray, List.set_cons_zero, List.set_cons_succ]
    have ho := one_str (lowB c) Wd
    refine region_make 5 (v := .string ⟨#[lowB c]⟩) (w1 := Wd.alloc (.cells #[.int .u8 (lowB c).toNat] 5)) (by kernel_rfl) rfl (by rfl) (by go_simp) (Only.refl _ _) ?_
    simp only [List.getElem_toArray, List.getElem_cons_zero, List.getElem_cons_succ, Act.put, List.setIfInBounds_toArray, List.set_cons_zero, List.set_cons_succ]
    clear ho
    refine region_make 6 (v := .string (ofL (p ++ [lowB c]))) (w1 := Wd.alloc (.cells #[.int .u8 (lowB c).toNat] 5)) (by kernel_rfl) rfl (by rfl) (by rw [← ofL_snoc]; go_simp; omega) (Only.refl _ _) ?_
    simp only [List.getElem_toArray, List.getElem_cons_zero, List.getElem_cons_succ, Act.put, List.setIfInBounds_toArray, List.set_cons_zero, List.set_cons_succ]
    refine region_seg [false, false, false, false, false, false, false, true] 0 (by kernel_rfl) (by kernel_rfl) (by kernel_rfl) rfl (fun _ _ d _ _ h => by cases d <;> exact h) ?_
    repeat (first | with_reducible refine wpMask_pass ?_ | (refine wpMask_want (by rfl) (fun K hK => ?_); go_big_quiet_op; refine hK _ ?_; clear hK K))
    with_reducible refine wpMask_nil ?_
    refine region_end (by kernel_rfl) ?_
    have HBe := Lib.hid (HBd.out.trans (Bel.alloc _ (.cells #[.int .u8 (lowB c).toNat] 5)))
    have HRe := Lib.hid (HRd.out.alloc (.cells #[.int .u8 (lowB c).toNat] 5))
    have HXe := Lib.hid (HXd.out.alloc (.cells #[.int .u8 (lowB c).toNat] 5))
    generalize Wd.alloc (.cells #[.int .u8 (lowB c).toNat] 5) = We at HBe HRe HXe ⊢
    obtain ⟨r0, r1, r2, r3⟩ := cells4 HRe.out
    obtain ⟨v0, v1, v2, v3⟩ := frees4 HRe.out
    obtain ⟨x0, x1, x2, x3⟩ := cells4 HXe.out
    go_wp2_with (go_at_call 78; ((with_reducible refine (HP2.out _).mono ?_); rintro e w1 ⟨rfl, hw⟩; rw [hw]; clear hw w1))
    all_goals first
      | ((with_reducible apply pend_set (k := 6) (u := 7) (g := w.heap.size + 1)); (case hf => rfl); (case hp => rfl); (case hB => exact HRe.out); (case hb => exact HBe.out); (case hg => omega); (case hu => unfold endB; simp only [*, if_true, if_false, Bool.false_eq_true]; first | done | rfl); (unfold endS; simp only [*, if_true, if_false, Bool.false_eq_true]; first | done | rfl))
      | trace_state
  · have hpre2 : preB p [60] = false := by simpa using hpre
    clear hpre
    rw [hpre2] at HP1
    go_enter Try.func58, Try.ntmps58
    go_wp2_with (go_at_call 78; ((with_reducible refine (HP1.out _).mono ?_); rintro e w1 ⟨rfl, hw⟩; rw [hw]; clear hw w1))
    all_goals first
      | ((with_reducible apply pend_new (k := 6) (u := 7) (g := w.heap.size + 1)); (case hf => rfl); (case hp => rfl); (case hg => simp); (case hb => exact (Bel.alloc _ _).trans (Bel.alloc _ _)); (case hu => unfold endB; simp only [*, if_true, if_false, Bool.false_eq_true]; first | done | rfl); (unfold endS; simp only [*, if_true, if_false, Bool.false_eq_true]; first | done | rfl))
      | trace_state
end Go.Proofs.Yteclclidibmajaa

namespace Go.Proofs.Yteclclidibmajaa
open Go.RowKit Go.BigFrame
set_option linter.unusedVariables false
set_option linter.unusedSimpArgs false
set_option maxRecDepth 100000

set_option maxRecDepth 100000 in
set_option maxHeartbeats 3200000 in
theorem pcont16_yes (n a p : ByteArray) (t : HS) (c : UInt8) (w : World)
    (hc : ∀ W, Calls Try.prog 58 #[.agg #[.int .i64 16, .string n, .string a, .string p], .int .u8 c.toNat, .string ⟨#[60, 47, 115, 99, 114, 105, 112, 116]⟩] W (SvB (.agg #[.int .i64 (t.c : Nat), .string (ofL t.n), .string (ofL t.a), .string (ofL t.p)]) true W)) :
    Calls Try.prog 32 #[.agg #[.int .i64 16, .string n, .string a, .string p], .int .u8 c.toNat] w (SvV t.val w) := by
  have HC := Lib.hid hc
  clear hc
  have HB2 := Lib.hid ((Bel.alloc w (.cells #[.int .i64 16, .string n, .string a, .string p] 34)).trans (Bel.alloc (w.alloc (.cells #[.int .i64 16, .string n, .string a, .string p] 34)) (.cells #[.int .i64 0, .string ⟨#[]⟩, .string ⟨#[]⟩, .string ⟨#[]⟩] 34)))
  have HR2 := Lib.hid (blk_at1h w (.cells #[.int .i64 16, .string n, .string a, .string p] 34) 34 [.int .i64 0, .string ⟨#[]⟩, .string ⟨#[]⟩, .string ⟨#[]⟩])
  have HX2 := Lib.hid ((Blk.new w 34 [.int .i64 16, .string n, .string a, .string p]).alloc (.cells #[.int .i64 0, .string ⟨#[]⟩, .string ⟨#[]⟩, .string ⟨#[]⟩] 34))
  have HE : Hid (∀ W, Calls Try.prog 57 #[.int .i64 16] W (SvV (.agg #[.string ⟨#[60, 47, 115, 99, 114, 105, 112, 116]⟩, .int .i64 16, .int .i64 17, .int .i64 18]) W)) := Lib.hid (fun W => pelem16_c 16 (by decide) W)
  go_enter Try.func32, Try.ntmps32
  go_wp2_with (first
    | (go_at_call 57; ((with_reducible refine (HE.out _).mono ?_); rintro e w1 ⟨rfl, hb⟩; have HB1 := Lib.hid ((HB2.out.trans hb).trans (Bel.alloc w1 (.cells #[.string ⟨#[60, 47, 115, 99, 114, 105, 112, 116]⟩, .int .i64 16, .int .i64 17, .int .i64 18] 81))); have HR1 := Lib.hid ((HR2.out.belh hb).alloc (.cells #[.string ⟨#[60, 47, 115, 99, 114, 105, 112, 116]⟩, .int .i64 16, .int .i64 17, .int .i64 18] 81)); have HX1 := Lib.hid ((HX2.out.belh hb).alloc (.cells #[.string ⟨#[60, 47, 115, 99, 114, 105, 112, 116]⟩, .int .i64 16, .int .i64 17, .int .i64 18] 81)); have HK1 := Lib.hid (Blk.new w1 81 [.string ⟨#[60, 47, 115, 99, 114, 105, 112, 116]⟩, .int .i64 16, .int .i64 17, .int .i64 18]); clear hb; obtain ⟨x0, x1, x2, x3⟩ := cells4 HX1.out; obtain ⟨k0, k1, k2, k3⟩ := cells4 HK1.out))
    | (go_at_call 58; ((with_reducible refine (HC.out _).mono ?_); rintro e w2 ⟨rfl, hb⟩; have HB3 := Lib.hid ((HB1.out.trans hb).trans (Bel.alloc w2 (.cells #[.int .i64 (t.c : Nat), .string (ofL t.n), .string (ofL t.a), .string (ofL t.p)] 34))); have HR3 := Lib.hid ((HR1.out.belh hb).alloc (.cells #[.int .i64 (t.c : Nat), .string (ofL t.n), .string (ofL t.a), .string (ofL t.p)] 34)); have HX3 := Lib.hid ((HX1.out.belh hb).alloc (.cells #[.int .i64 (t.c : Nat), .string (ofL t.n), .string (ofL t.a), .string (ofL t.p)] 34)); have HK3 := Lib.hid ((HK1.out.belh hb).alloc (.cells #[.int .i64 (t.c : Nat), .string (ofL t.n), .string (ofL t.a), .string (ofL t.p)] 34)); clear hb x0 x1 x2 x3 k0 k1 k2 k3; obtain ⟨x0, x1, x2, x3⟩ := cells4 HX3.out; obtain ⟨k0, k1, k2, k3⟩ := cells4 HK3.out; obtain ⟨r0, r1, r2, r3⟩ := cells4 HR3.out; obtain ⟨v0, v1, v2, v3⟩ := frees4 HR3.out)))
  all_goals first
    | ((with_reducible apply pst_set (k := 4) (g := w.heap.size + 1)); (case hf => rfl); (case hp => rfl); (case hB => exact HR3.out); (case hb => exact HB3.out); (case hg => omega); rfl)
    | trace_state
set_option maxRecDepth 100000 in
set_option maxHeartbeats 3200000 in
theorem pcont16_no (n a p : ByteArray) (t : HS) (c : UInt8) (w : World)
    (hc : ∀ W, Calls Try.prog 58 #[.agg #[.int .i64 16, .string n, .string a, .string p], .int .u8 c.toNat, .string ⟨#[60, 47, 115, 99, 114, 105, 112, 116]⟩] W (SvB (.agg #[.int .i64 0, .string ⟨#[]⟩, .string ⟨#[]⟩, .string ⟨#[]⟩]) false W))
    (hf : ∀ W, Calls Try.prog 60 #[.int .u8 c.toNat, .agg #[.string ⟨#[60, 47, 115, 99, 114, 105, 112, 116]⟩, .int .i64 16, .int .i64 17, .int .i64 18]] W (SvV (.agg #[.int .i64 (t.c : Nat), .string (ofL t.n), .string (ofL t.a), .string (ofL t.p)]) W)) :
    Calls Try.prog 32 #[.agg #[.int .i64 16, .string n, .string a, .string p], .int .u8 c.toNat] w (SvV t.val w) := by
  have HC := Lib.hid hc
  have HF := Lib.hid hf
  clear hc hf
  have HB2 := Lib.hid ((Bel.alloc w (.cells #[.int .i64 16, .string n, .string a, .string p] 34)).trans (Bel.alloc (w.alloc (.cells #[.int .i64 16, .string n, .string a, .string p] 34)) (.cells #[.int .i64 0, .string ⟨#[]⟩, .string ⟨#[]⟩, .string ⟨#[]⟩] 34)))
  have HR2 := Lib.hid (blk_at1h w (.cells #[.int .i64 16, .string n, .string a, .string p] 34) 34 [.int .i64 0, .string ⟨#[]⟩, .string ⟨#[]⟩, .string ⟨#[]⟩])
  have HX2 := Lib.hid ((Blk.new w 34 [.int .i64 16, .string n, .string a, .string p]).alloc (.cells #[.int .i64 0, .string ⟨#[]⟩, .string ⟨#[]⟩, .string ⟨#[]⟩] 34))
  have HE : Hid (∀ W, Calls Try.prog 57 #[.int .i64 16] W (SvV (.agg #[.string ⟨#[60, 47, 115, 99, 114, 105, 112, 116]⟩, .int .i64 16, .int .i64 17, .int .i64 18]) W)) := Lib.hid (fun W => pelem16_c 16 (by decide) W)
  go_enter Try.func32, Try.ntmps32
  go_wp2_with (first
    | (go_at_call 57; ((with_reducible refine (HE.out _).mono ?_); rintro e w1 ⟨rfl, hb⟩; have HB1 := Lib.hid ((HB2.out.trans hb).trans (Bel.alloc w1 (.cells #[.string ⟨#[60, 47, 115, 99, 114, 105, 112, 116]⟩, .int .i64 16, .int .i64 17, .int .i64 18] 81))); have HR1 := Lib.hid ((HR2.out.belh hb).alloc (.cells #[.string ⟨#[60, 47, 115, 99, 114, 105, 112, 116]⟩, .int .i64 16, .int .i64 17, .int .i64 18] 81)); have HX1 := Lib.hid ((HX2.out.belh hb).alloc (.cells #[.string ⟨#[60, 47, 115, 99, 114, 105, 112, 116]⟩, .int .i64 16, .int .i64 17, .int .i64 18] 81)); have HK1 := Lib.hid (Blk.new w1 81 [.string ⟨#[60, 47, 115, 99, 114, 105, 112, 116]⟩, .int .i64 16, .int .i64 17, .int .i64 18]); clear hb; obtain ⟨x0, x1, x2, x3⟩ := cells4 HX1.out; obtain ⟨k0, k1, k2, k3⟩ := cells4 HK1.out))
    | (go_at_call 58; ((with_reducible refine (HC.out _).mono ?_); rintro e w2 ⟨rfl, hb⟩; have HB3 := Lib.hid ((HB1.out.trans hb).trans (Bel.alloc w2 (.cells #[.int .i64 0, .string ⟨#[]⟩, .string ⟨#[]⟩, .string ⟨#[]⟩] 34))); have HR3 := Lib.hid ((HR1.out.belh hb).alloc (.cells #[.int .i64 0, .string ⟨#[]⟩, .string ⟨#[]⟩, .string ⟨#[]⟩] 34)); have HX3 := Lib.hid ((HX1.out.belh hb).alloc (.cells #[.int .i64 0, .string ⟨#[]⟩, .string ⟨#[]⟩, .string ⟨#[]⟩] 34)); have HK3 := Lib.hid ((HK1.out.belh hb).alloc (.cells #[.int .i64 0, .string ⟨#[]⟩, .string ⟨#[]⟩, .string ⟨#[]⟩] 34)); clear hb x0 x1 x2 x3 k0 k1 k2 k3; obtain ⟨x0, x1, x2, x3⟩ := cells4 HX3.out; obtain ⟨k0, k1, k2, k3⟩ := cells4 HK3.out; obtain ⟨r0, r1, r2, r3⟩ := cells4 HR3.out; obtain ⟨v0, v1, v2, v3⟩ := frees4 HR3.out))
    | (go_at_call 60; ((with_reducible refine (HF.out _).mono ?_); rintro e w3 ⟨rfl, hb⟩; have HB4 := Lib.hid (HB3.out.trans hb); have HR4 := Lib.hid (HR3.out.belh hb); clear hb x0 x1 x2 x3 k0 k1 k2 k3 r0 r1 r2 r3 v0 v1 v2 v3; obtain ⟨r0, r1, r2, r3⟩ := cells4 HR4.out; obtain ⟨v0, v1, v2, v3⟩ := frees4 HR4.out)))
  all_goals first
    | ((with_reducible apply pst_set (k := 4) (g := w.heap.size + 1)); (case hf => rfl); (case hp => rfl); (case hB => exact HR4.out); (case hb => exact HB4.out); (case hg => omega); rfl)
    | trace_state
set_option maxRecDepth 100000 in
set_option maxHeartbeats 3200000 in
theorem pcont17_yes (n a p : ByteArray) (t : HS) (c : UInt8) (w : World)
    (hc : ∀ W, Calls Try.prog 58 #[.agg #[.int .i64 17, .string n, .string a, .string p], .int .u8 c.toNat, .string ⟨#[60, 47, 115, 99, 114, 105, 112, 116]⟩] W (SvB (.agg #[.int .i64 (t.c : Nat), .string (ofL t.n), .string (ofL t.a), .string (ofL t.p)]) true W)) :
    Calls Try.prog 32 #[.agg #[.int .i64 17, .string n, .string a, .string p], .int .u8 c.toNat] w (SvV t.val w) := by
  have HC := Lib.hid hc
  clear hc
  have HB2 := Lib.hid ((Bel.alloc w (.cells #[.int .i64 17, .string n, .string a, .string p] 34)).trans (Bel.alloc (w.alloc (.cells #[.int .i64 17, .string n, .string a, .string p] 34)) (.cells #[.int .i64 0, .string ⟨#[]⟩, .string ⟨#[]⟩, .string ⟨#[]⟩] 34)))
  have HR2 := Lib.hid (blk_at1h w (.cells #[.int .i64 17, .string n, .string a, .string p] 34) 34 [.int .i64 0, .string ⟨#[]⟩, .string ⟨#[]⟩, .string ⟨#[]⟩])
  have HX2 := Lib.hid ((Blk.new w 34 [.int .i64 17, .string n, .string a, .string p]).alloc (.cells #[.int .i64 0, .string ⟨#[]⟩, .string ⟨#[]⟩, .string ⟨#[]⟩] 34))
  have HE : Hid (∀ W, Calls Try.prog 57 #[.int .i64 17] W (SvV (.agg #[.string ⟨#[60, 47, 115, 99, 114, 105, 112, 116]⟩, .int .i64 16, .int .i64 17, .int .i64 18]) W)) := Lib.hid (fun W => pelem16_c 17 (by decide) W)
  go_enter Try.func32, Try.ntmps32
  go_wp2_with (first
    | (go_at_call 57; ((with_reducible refine (HE.out _).mono ?_); rintro e w1 ⟨rfl, hb⟩; have HB1 := Lib.hid ((HB2.out.trans hb).trans (Bel.alloc w1 (.cells #[.string ⟨#[60, 47, 115, 99, 114, 105, 112, 116]⟩, .int .i64 16, .int .i64 17, .int .i64 18] 81))); have HR1 := Lib.hid ((HR2.out.belh hb).alloc (.cells #[.string ⟨#[60, 47, 115, 99, 114, 105, 112, 116]⟩, .int .i64 16, .int .i64 17, .int .i64 18] 81)); have HX1 := Lib.hid ((HX2.out.belh hb).alloc (.cells #[.string ⟨#[60, 47, 115, 99, 114, 105, 112, 116]⟩, .int .i64 16, .int .i64 17, .int .i64 18] 81)); have HK1 := Lib.hid (Blk.new w1 81 [.string ⟨#[60, 47, 115, 99, 114, 105, 112, 116]⟩, .int .i64 16, .int .i64 17, .int .i64 18]); clear hb; obtain ⟨x0, x1, x2, x3⟩ := cells4 HX1.out; obtain ⟨k0, k1, k2, k3⟩ := cells4 HK1.out))
    | (go_at_call 58; ((with_reducible refine (HC.out _).mono ?_); rintro e w2 ⟨rfl, hb⟩; have HB3 := Lib.hid ((HB1.out.trans hb).trans (Bel.alloc w2 (.cells #[.int .i64 (t.c : Nat), .string (ofL t.n), .string (ofL t.a), .string (ofL t.p)] 34))); have HR3 := Lib.hid ((HR1.out.belh hb).alloc (.cells #[.int .i64 (t.c : Nat), .string (ofL t.n), .string (ofL t.a), .string (ofL t.p)] 34)); have HX3 := Lib.hid ((HX1.out.belh hb).alloc (.cells #[.int .i64 (t.c : Nat), .string (ofL t.n), .string (ofL t.a), .string (ofL t.p)] 34)); have HK3 := Lib.hid ((HK1.out.belh hb).alloc (.cells #[.int .i64 (t.c : Nat), .string (ofL t.n), .string (ofL t.a), .string (ofL t.p)] 34)); clear hb x0 x1 x2 x3 k0 k1 k2 k3; obtain ⟨x0, x1, x2, x3⟩ := cells4 HX3.out; obtain ⟨k0, k1, k2, k3⟩ := cells4 HK3.out; obtain ⟨r0, r1, r2, r3⟩ := cells4 HR3.out; obtain ⟨v0, v1, v2, v3⟩ := frees4 HR3.out)))
  all_goals first
    | ((with_reducible apply pst_set (k := 4) (g := w.heap.size + 1)); (case hf => rfl); (case hp => rfl); (case hB => exact HR3.out); (case hb => exact HB3.out); (case hg => omega); rfl)
    | trace_state
set_option maxRecDepth 100000 in
set_option maxHeartbeats 3200000 in
theorem pcont17_no (n a p : ByteArray) (t : HS) (c : UInt8) (w : World)
    (hc : ∀ W, Calls Try.prog 58 #[.agg #[.int .i64 17, .string n, .string a, .string p], .int .u8 c.toNat, .string ⟨#[60, 47, 115, 99, 114, 105, 112, 116]⟩] W (SvB (.agg #[.int .i64 0, .string ⟨#[]⟩, .string ⟨#[]⟩, .string ⟨#[]⟩]) false W))
    (hf : ∀ W, Calls Try.prog 59 #[.agg #[.int .i64 17, .string n, .string a, .string p], .int .u8 c.toNat, .int .u8 34, .int .i64 16] W (SvV (.agg #[.int .i64 (t.c : Nat), .string (ofL t.n), .string (ofL t.a), .string (ofL t.p)]) W)) :
    Calls Try.prog 32 #[.agg #[.int .i64 17, .string n, .string a, .string p], .int .u8 c.toNat] w (SvV t.val w) := by
  have HC := Lib.hid hc
  have HF := Lib.hid hf
  clear hc hf
  have HB2 := Lib.hid ((Bel.alloc w (.cells #[.int .i64 17, .string n, .string a, .string p] 34)).trans (Bel.alloc (w.alloc (.cells #[.int .i64 17, .string n, .string a, .string p] 34)) (.cells #[.int .i64 0, .string ⟨#[]⟩, .string ⟨#[]⟩, .string ⟨#[]⟩] 34)))
  have HR2 := Lib.hid (blk_at1h w (.cells #[.int .i64 17, .string n, .string a, .string p] 34) 34 [.int .i64 0, .string ⟨#[]⟩, .string ⟨#[]⟩, .string ⟨#[]⟩])
  have HX2 := Lib.hid ((Blk.new w 34 [.int .i64 17, .string n, .string a, .string p]).alloc (.cells #[.int .i64 0, .string ⟨#[]⟩, .string ⟨#[]⟩, .string ⟨#[]⟩] 34))
  have HE : Hid (∀ W, Calls Try.prog 57 #[.int .i64 17] W (SvV (.agg #[.string ⟨#[60, 47, 115, 99, 114, 105, 112, 116]⟩, .int .i64 16, .int .i64 17, .int .i64 18]) W)) := Lib.hid (fun W => pelem16_c 17 (by decide) W)
  go_enter Try.func32, Try.ntmps32
  go_wp2_with (first
    | (go_at_call 57; ((with_reducible refine (HE.out _).mono ?_); rintro e w1 ⟨rfl, hb⟩; have HB1 := Lib.hid ((HB2.out.trans hb).trans (Bel.alloc w1 (.cells #[.string ⟨#[60, 47, 115, 99, 114, 105, 112, 116]⟩, .int .i64 16, .int .i64 17, .int .i64 18] 81))); have HR1 := Lib.hid ((HR2.out.belh hb).alloc (.cells #[.string ⟨#[60, 47, 115, 99, 114, 105, 112, 116]⟩, .int .i64 16, .int .i64 17, .int .i64 18] 81)); have HX1 := Lib.hid ((HX2.out.belh hb).alloc (.cells #[.string ⟨#[60, 47, 115, 99, 114, 105, 112, 116]⟩, .int .i64 16, .int .i64 17, .int .i64 18] 81)); have HK1 := Lib.hid (Blk.new w1 81 [.string ⟨#[60, 47, 115, 99, 114, 105, 112, 116]⟩, .int .i64 16, .int .i64 17, .int .i64 18]); clear hb; obtain ⟨x0, x1, x2, x3⟩ := cells4 HX1.out; obtain ⟨k0, k1, k2, k3⟩ := cells4 HK1.out))
    | (go_at_call 58; ((with_reducible refine (HC.out _).mono ?_); rintro e w2 ⟨rfl, hb⟩; have HB3 := Lib.hid ((HB1.out.trans hb).trans (Bel.alloc w2 (.cells #[.int .i64 0, .string ⟨#[]⟩, .string ⟨#[]⟩, .string ⟨#[]⟩] 34))); have HR3 := Lib.hid ((HR1.out.belh hb).alloc (.cells #[.int .i64 0, .string ⟨#[]⟩, .string ⟨#[]⟩, .string ⟨#[]⟩] 34)); have HX3 := Lib.hid ((HX1.out.belh hb).alloc (.cells #[.int .i64 0, .string ⟨#[]⟩, .string ⟨#[]⟩, .string ⟨#[]⟩] 34)); have HK3 := Lib.hid ((HK1.out.belh hb).alloc (.cells #[.int .i64 0, .string ⟨#[]⟩, .string ⟨#[]⟩, .string ⟨#[]⟩] 34)); clear hb x0 x1 x2 x3 k0 k1 k2 k3; obtain ⟨x0, x1, x2, x3⟩ := cells4 HX3.out; obtain ⟨k0, k1, k2, k3⟩ := cells4 HK3.out; obtain ⟨r0, r1, r2, r3⟩ := cells4 HR3.out; obtain ⟨v0, v1, v2, v3⟩ := frees4 HR3.out))
    | (go_at_call 59; ((with_reducible refine (HF.out _).mono ?_); rintro e w3 ⟨rfl, hb⟩; have HB4 := Lib.hid (HB3.out.trans hb); have HR4 := Lib.hid (HR3.out.belh hb); clear hb x0 x1 x2 x3 k0 k1 k2 k3 r0 r1 r2 r3 v0 v1 v2 v3; obtain ⟨r0, r1, r2, r3⟩ := cells4 HR4.out; obtain ⟨v0, v1, v2, v3⟩ := frees4 HR4.out)))
  all_goals first
    | ((with_reducible apply pst_set (k := 4) (g := w.heap.size + 1)); (case hf => rfl); (case hp => rfl); (case hB => exact HR4.out); (case hb => exact HB4.out); (case hg => omega); rfl)
    | trace_state
set_option maxRecDepth 100000 in
set_option maxHeartbeats 3200000 in
theorem pcont18_yes (n a p : ByteArray) (t : HS) (c : UInt8) (w : World)
    (hc : ∀ W, Calls Try.prog 58 #[.agg #[.int .i64 18, .string n, .string a, .string p], .int .u8 c.toNat, .string ⟨#[60, 47, 115, 99, 114, 105, 112, 116]⟩] W (SvB (.agg #[.int .i64 (t.c : Nat), .string (ofL t.n), .string (ofL t.a), .string (ofL t.p)]) true W)) :
    Calls Try.prog 32 #[.agg #[.int .i64 18, .string n, .string a, .string p], .int .u8 c.toNat] w (SvV t.val w) := by
  have HC := Lib.hid hc
  clear hc
  have HB2 := Lib.hid ((Bel.alloc w (.cells #[.int .i64 18, .string n, .string a, .string p] 34)).trans (Bel.alloc (w.alloc (.cells #[.int .i64 18, .string n, .string a, .string p] 34)) (.cells #[.int .i64 0, .string ⟨#[]⟩, .string ⟨#[]⟩, .string ⟨#[]⟩] 34)))
  have HR2 := Lib.hid (blk_at1h w (.cells #[.int .i64 18, .string n, .string a, .string p] 34) 34 [.int .i64 0, .string ⟨#[]⟩, .string ⟨#[]⟩, .string ⟨#[]⟩])
  have HX2 := Lib.hid ((Blk.new w 34 [.int .i64 18, .string n, .string a, .string p]).alloc (.cells #[.int .i64 0, .string ⟨#[]⟩, .string ⟨#[]⟩, .string ⟨#[]⟩] 34))
  have HE : Hid (∀ W, Calls Try.prog 57 #[.int .i64 18] W (SvV (.agg #[.string ⟨#[60, 47, 115, 99, 114, 105, 112, 116]⟩, .int .i64 16, .int .i64 17, .int .i64 18]) W)) := Lib.hid (fun W => pelem16_c 18 (by decide) W)
  go_enter Try.func32, Try.ntmps32
  go_wp2_with (first
    | (go_at_call 57; ((with_reducible refine (HE.out _).mono ?_); rintro e w1 ⟨rfl, hb⟩; have HB1 := Lib.hid ((HB2.out.trans hb).trans (Bel.alloc w1 (.cells #[.string ⟨#[60, 47, 115, 99, 114, 105, 112, 116]⟩, .int .i64 16, .int .i64 17, .int .i64 18] 81))); have HR1 := Lib.hid ((HR2.out.belh hb).alloc (.cells #[.string ⟨#[60, 47, 115, 99, 114, 105, 112, 116]⟩, .int .i64 16, .int .i64 17, .int .i64 18] 81)); have HX1 := Lib.hid ((HX2.out.belh hb).alloc (.cells #[.string ⟨#[60, 47, 115, 99, 114, 105, 112, 116]⟩, .int .i64 16, .int .i64 17, .int .i64 18] 81)); have HK1 := Lib.hid (Blk.new w1 81 [.string ⟨#[60, 47, 115, 99, 114, 105, 112, 116]⟩, .int .i64 16, .int .i64 17, .int .i64 18]); clear hb; obtain ⟨x0, x1, x2, x3⟩ := cells4 HX1.out; obtain ⟨k0, k1, k2, k3⟩ := cells4 HK1.out))
    | (go_at_call 58; ((with_reducible refine (HC.out _).mono ?_); rintro e w2 ⟨rfl, hb⟩; have HB3 := Lib.hid ((HB1.out.trans hb).trans (Bel.alloc w2 (.cells #[.int .i64 (t.c : Nat), .string (ofL t.n), .string (ofL t.a), .string (ofL t.p)] 34))); have HR3 := Lib.hid ((HR1.out.belh hb).alloc (.cells #[.int .i64 (t.c : Nat), .string (ofL t.n), .string (ofL t.a), .string (ofL t.p)] 34)); have HX3 := Lib.hid ((HX1.out.belh hb).alloc (.cells #[.int .i64 (t.c : Nat), .string (ofL t.n), .string (ofL t.a), .string (ofL t.p)] 34)); have HK3 := Lib.hid ((HK1.out.belh hb).alloc (.cells #[.int .i64 (t.c : Nat), .string (ofL t.n), .string (ofL t.a), .string (ofL t.p)] 34)); clear hb x0 x1 x2 x3 k0 k1 k2 k3; obtain ⟨x0, x1, x2, x3⟩ := cells4 HX3.out; obtain ⟨k0, k1, k2, k3⟩ := cells4 HK3.out; obtain ⟨r0, r1, r2, r3⟩ := cells4 HR3.out; obtain ⟨v0, v1, v2, v3⟩ := frees4 HR3.out)))
  all_goals first
    | ((with_reducible apply pst_set (k := 4) (g := w.heap.size + 1)); (case hf => rfl); (case hp => rfl); (case hB => exact HR3.out); (case hb => exact HB3.out); (case hg => omega); rfl)
    | trace_state
set_option maxRecDepth 100000 in
set_option maxHeartbeats 3200000 in
theorem pcont18_no (n a p : ByteArray) (t : HS) (c : UInt8) (w : World)
    (hc : ∀ W, Calls Try.prog 58 #[.agg #[.int .i64 18, .string n, .string a, .string p], .int .u8 c.toNat, .string ⟨#[60, 47, 115, 99, 114, 105, 112, 116]⟩] W (SvB (.agg #[.int .i64 0, .string ⟨#[]⟩, .string ⟨#[]⟩, .string ⟨#[]⟩]) false W))
    (hf : ∀ W, Calls Try.prog 59 #[.agg #[.int .i64 18, .string n, .string a, .string p], .int .u8 c.toNat, .int .u8 39, .int .i64 16] W (SvV (.agg #[.int .i64 (t.c : Nat), .string (ofL t.n), .string (ofL t.a), .string (ofL t.p)]) W)) :
    Calls Try.prog 32 #[.agg #[.int .i64 18, .string n, .string a, .string p], .int .u8 c.toNat] w (SvV t.val w) := by
  have HC := Lib.hid hc
  have HF := Lib.hid hf
  clear hc hf
  have HB2 := Lib.hid ((Bel.alloc w (.cells #[.int .i64 18, .string n, .string a, .string p] 34)).trans (Bel.alloc (w.alloc (.cells #[.int .i64 18, .string n, .string a, .string p] 34)) (.cells #[.int .i64 0, .string ⟨#[]⟩, .string ⟨#[]⟩, .string ⟨#[]⟩] 34)))
  have HR2 := Lib.hid (blk_at1h w (.cells #[.int .i64 18, .string n, .string a, .string p] 34) 34 [.int .i64 0, .string ⟨#[]⟩, .string ⟨#[]⟩, .string ⟨#[]⟩])
  have HX2 := Lib.hid ((Blk.new w 34 [.int .i64 18, .string n, .string a, .string p]).alloc (.cells #[.int .i64 0, .string ⟨#[]⟩, .string ⟨#[]⟩, .string ⟨#[]⟩] 34))
  have HE : Hid (∀ W, Calls Try.prog 57 #[.int .i64 18] W (SvV (.agg #[.string ⟨#[60, 47, 115, 99, 114, 105, 112, 116]⟩, .int .i64 16, .int .i64 17, .int .i64 18]) W)) := Lib.hid (fun W => pelem16_c 18 (by decide) W)
  go_enter Try.func32, Try.ntmps32
  go_wp2_with (first
    | (go_at_call 57; ((with_reducible refine (HE.out _).mono ?_); rintro e w1 ⟨rfl, hb⟩; have HB1 := Lib.hid ((HB2.out.trans hb).trans (Bel.alloc w1 (.cells #[.string ⟨#[60, 47, 115, 99, 114, 105, 112, 116]⟩, .int .i64 16, .int .i64 17, .int .i64 18] 81))); have HR1 := Lib.hid ((HR2.out.belh hb).alloc (.cells #[.string ⟨#[60, 47, 115, 99, 114, 105, 112, 116]⟩, .int .i64 16, .int .i64 17, .int .i64 18] 81)); have HX1 := Lib.hid ((HX2.out.belh hb).alloc (.cells #[.string ⟨#[60, 47, 115, 99, 114, 105, 112, 116]⟩, .int .i64 16, .int .i64 17, .int .i64 18] 81)); have HK1 := Lib.hid (Blk.new w1 81 [.string ⟨#[60, 47, 115, 99, 114, 105, 112, 116]⟩, .int .i64 16, .int .i64 17, .int .i64 18]); clear hb; obtain ⟨x0, x1, x2, x3⟩ := cells4 HX1.out; obtain ⟨k0, k1, k2, k3⟩ := cells4 HK1.out))
    | (go_at_call 58; ((with_reducible refine (HC.out _).mono ?_); rintro e w2 ⟨rfl, hb⟩; have HB3 := Lib.hid ((HB1.out.trans hb).trans (Bel.alloc w2 (.cells #[.int .i64 0, .string ⟨#[]⟩, .string ⟨#[]⟩, .string ⟨#[]⟩] 34))); have HR3 := Lib.hid ((HR1.out.belh hb).alloc (.cells #[.int .i64 0, .string ⟨#[]⟩, .string ⟨#[]⟩, .string ⟨#[]⟩] 34)); have HX3 := Lib.hid ((HX1.out.belh hb).alloc (.cells #[.int .i64 0, .string ⟨#[]⟩, .string ⟨#[]⟩, .string ⟨#[]⟩] 34)); have HK3 := Lib.hid ((HK1.out.belh hb).alloc (.cells #[.int .i64 0, .string ⟨#[]⟩, .string ⟨#[]⟩, .string ⟨#[]⟩] 34)); clear hb x0 x1 x2 x3 k0 k1 k2 k3; obtain ⟨x0, x1, x2, x3⟩ := cells4 HX3.out; obtain ⟨k0, k1, k2, k3⟩ := cells4 HK3.out; obtain ⟨r0, r1, r2, r3⟩ := cells4 HR3.out; obtain ⟨v0, v1, v2, v3⟩ := frees4 HR3.out))
    | (go_at_call 59; ((with_reducible refine (HF.out _).mono ?_); rintro e w3 ⟨rfl, hb⟩; have HB4 := Lib.hid (HB3.out.trans hb); have HR4 := Lib.hid (HR3.out.belh hb); clear hb x0 x1 x2 x3 k0 k1 k2 k3 r0 r1 r2 r3 v0 v1 v2 v3; obtain ⟨r0, r1, r2, r3⟩ := cells4 HR4.out; obtain ⟨v0, v1, v2, v3⟩ := frees4 HR4.out)))
  all_goals first
    | ((with_reducible apply pst_set (k := 4) (g := w.heap.size + 1)); (case hf => rfl); (case hp => rfl); (case hB => exact HR4.out); (case hb => exact HB4.out); (case hg => omega); rfl)
    | trace_state
set_option maxRecDepth 100000 in
set_option maxHeartbeats 3200000 in
theorem pcont19_yes (n a p : ByteArray) (t : HS) (c : UInt8) (w : World)
    (hc : ∀ W, Calls Try.prog 58 #[.agg #[.int .i64 19, .string n, .string a, .string p], .int .u8 c.toNat, .string ⟨#[60, 47, 115, 116, 121, 108, 101]⟩] W (SvB (.agg #[.int .i64 (t.c : Nat), .string (ofL t.n), .string (ofL t.a), .string (ofL t.p)]) true W)) :
    Calls Try.prog 32 #[.agg #[.int .i64 19, .string n, .string a, .string p], .int .u8 c.toNat] w (SvV t.val w) := by
  have HC := Lib.hid hc
  clear hc
  have HB2 := Lib.hid ((Bel.alloc w (.cells #[.int .i64 19, .string n, .string a, .string p] 34)).trans (Bel.alloc (w.alloc (.cells #[.int .i64 19, .string n, .string a, .string p] 34)) (.cells #[.int .i64 0, .string ⟨#[]⟩, .string ⟨#[]⟩, .string ⟨#[]⟩] 34)))
  have HR2 := Lib.hid (blk_at1h w (.cells #[.int .i64 19, .string n, .string a, .string p] 34) 34 [.int .i64 0, .string ⟨#[]⟩, .string ⟨#[]⟩, .string ⟨#[]⟩])
  have HX2 := Lib.hid ((Blk.new w 34 [.int .i64 19, .string n, .string a, .string p]).alloc (.cells #[.int .i64 0, .string ⟨#[]⟩, .string ⟨#[]⟩, .string ⟨#[]⟩] 34))
  have HE : Hid (∀ W, Calls Try.prog 57 #[.int .i64 19] W (SvV (.agg #[.string ⟨#[60, 47, 115, 116, 121, 108, 101]⟩, .int .i64 19, .int .i64 20, .int .i64 21]) W)) := Lib.hid (fun W => pelem19_c 19 (by decide) W)
  go_enter Try.func32, Try.ntmps32
  go_wp2_with (first
    | (go_at_call 57; ((with_reducible refine (HE.out _).mono ?_); rintro e w1 ⟨rfl, hb⟩; have HB1 := Lib.hid ((HB2.out.trans hb).trans (Bel.alloc w1 (.cells #[.string ⟨#[60, 47, 115, 116, 121, 108, 101]⟩, .int .i64 19, .int .i64 20, .int .i64 21] 81))); have HR1 := Lib.hid ((HR2.out.belh hb).alloc (.cells #[.string ⟨#[60, 47, 115, 116, 121, 108, 101]⟩, .int .i64 19, .int .i64 20, .int .i64 21] 81)); have HX1 := Lib.hid ((HX2.out.belh hb).alloc (.cells #[.string ⟨#[60, 47, 115, 116, 121, 108, 101]⟩, .int .i64 19, .int .i64 20, .int .i64 21] 81)); have HK1 := Lib.hid (Blk.new w1 81 [.string ⟨#[60, 47, 115, 116, 121, 108, 101]⟩, .int .i64 19, .int .i64 20, .int .i64 21]); clear hb; obtain ⟨x0, x1, x2, x3⟩ := cells4 HX1.out; obtain ⟨k0, k1, k2, k3⟩ := cells4 HK1.out))
    | (go_at_call 58; ((with_reducible refine (HC.out _).mono ?_); rintro e w2 ⟨rfl, hb⟩; have HB3 := Lib.hid ((HB1.out.trans hb).trans (Bel.alloc w2 (.cells #[.int .i64 (t.c : Nat), .string (ofL t.n), .string (ofL t.a), .string (ofL t.p)] 34))); have HR3 := Lib.hid ((HR1.out.belh hb).alloc (.cells #[.int .i64 (t.c : Nat), .string (ofL t.n), .string (ofL t.a), .string (ofL t.p)] 34)); have HX3 := Lib.hid ((HX1.out.belh hb).alloc (.cells #[.int .i64 (t.c : Nat), .string (ofL t.n), .string (ofL t.a), .string (ofL t.p)] 34)); have HK3 := Lib.hid ((HK1.out.belh hb).alloc (.cells #[.int .i64 (t.c : Nat), .string (ofL t.n), .string (ofL t.a), .string (ofL t.p)] 34)); clear hb x0 x1 x2 x3 k0 k1 k2 k3; obtain ⟨x0, x1, x2, x3⟩ := cells4 HX3.out; obtain ⟨k0, k1, k2, k3⟩ := cells4 HK3.out; obtain ⟨r0, r1, r2, r3⟩ := cells4 HR3.out; obtain ⟨v0, v1, v2, v3⟩ := frees4 HR3.out)))
  all_goals first
    | ((with_reducible apply pst_set (k := 4) (g := w.heap.size + 1)); (case hf => rfl); (case hp => rfl); (case hB => exact HR3.out); (case hb => exact HB3.out); (case hg => omega); rfl)
    | trace_state
set_option maxRecDepth 100000 in
set_option maxHeartbeats 3200000 in
theorem pcont19_no (n a p : ByteArray) (t : HS) (c : UInt8) (w : World)
    (hc : ∀ W, Calls Try.prog 58 #[.agg #[.int .i64 19, .string n, .string a, .string p], .int .u8 c.toNat, .string ⟨#[60, 47, 115, 116, 121, 108, 101]⟩] W (SvB (.agg #[.int .i64 0, .string ⟨#[]⟩, .string ⟨#[]⟩, .string ⟨#[]⟩]) false W))
    (hf : ∀ W, Calls Try.prog 60 #[.int .u8 c.toNat, .agg #[.string ⟨#[60, 47, 115, 116, 121, 108, 101]⟩, .int .i64 19, .int .i64 20, .int .i64 21]] W (SvV (.agg #[.int .i64 (t.c : Nat), .string (ofL t.n), .string (ofL t.a), .string (ofL t.p)]) W)) :
    Calls Try.prog 32 #[.agg #[.int .i64 19, .string n, .string a, .string p], .int .u8 c.toNat] w (SvV t.val w) := by
  have HC := Lib.hid hc
  have HF := Lib.hid hf
  clear hc hf
  have HB2 := Lib.hid ((Bel.alloc w (.cells #[.int .i64 19, .string n, .string a, .string p] 34)).trans (Bel.alloc (w.alloc (.cells #[.int .i64 19, .string n, .string a, .string p] 34)) (.cells #[.int .i64 0, .string ⟨#[]⟩, .string ⟨#[]⟩, .string ⟨#[]⟩] 34)))
  have HR2 := Lib.hid (blk_at1h w (.cells #[.int .i64 19, .string n, .string a, .string p] 34) 34 [.int .i64 0, .string ⟨#[]⟩, .string ⟨#[]⟩, .string ⟨#[]⟩])
  have HX2 := Lib.hid ((Blk.new w 34 [.int .i64 19, .string n, .string a, .string p]).alloc (.cells #[.int .i64 0, .string ⟨#[]⟩, .string ⟨#[]⟩, .string ⟨#[]⟩] 34))
  have HE : Hid (∀ W, Calls Try.prog 57 #[.int .i64 19] W (SvV (.agg #[.string ⟨#[60, 47, 115, 116, 121, 108, 101]⟩, .int .i64 19, .int .i64 20, .int .i64 21]) W)) := Lib.hid (fun W => pelem19_c 19 (by decide) W)
  go_enter Try.func32, Try.ntmps32
  go_wp2_with (first
    | (go_at_call 57; ((with_reducible refine (HE.out _).mono ?_); rintro e w1 ⟨rfl, hb⟩; have HB1 := Lib.hid ((HB2.out.trans hb).trans (Bel.alloc w1 (.cells #[.string ⟨#[60, 47, 115, 116, 121, 108, 101]⟩, .int .i64 19, .int .i64 20, .int .i64 21] 81))); have HR1 := Lib.hid ((HR2.out.belh hb).alloc (.cells #[.string ⟨#[60, 47, 115, 116, 121, 108, 101]⟩, .int .i64 19, .int .i64 20, .int .i64 21] 81)); have HX1 := Lib.hid ((HX2.out.belh hb).alloc (.cells #[.string ⟨#[60, 47, 115, 116, 121, 108, 101]⟩, .int .i64 19, .int .i64 20, .int .i64 21] 81)); have HK1 := Lib.hid (Blk.new w1 81 [.string ⟨#[60, 47, 115, 116, 121, 108, 101]⟩, .int .i64 19, .int .i64 20, .int .i64 21]); clear hb; obtain ⟨x0, x1, x2, x3⟩ := cells4 HX1.out; obtain ⟨k0, k1, k2, k3⟩ := cells4 HK1.out))
    | (go_at_call 58; ((with_reducible refine (HC.out _).mono ?_); rintro e w2 ⟨rfl, hb⟩; have HB3 := Lib.hid ((HB1.out.trans hb).trans (Bel.alloc w2 (.cells #[.int .i64 0, .string ⟨#[]⟩, .string ⟨#[]⟩, .string ⟨#[]⟩] 34))); have HR3 := Lib.hid ((HR1.out.belh hb).alloc (.cells #[.int .i64 0, .string ⟨#[]⟩, .string ⟨#[]⟩, .string ⟨#[]⟩] 34)); have HX3 := Lib.hid ((HX1.out.belh hb).alloc (.cells #[.int .i64 0, .string ⟨#[]⟩, .string ⟨#[]⟩, .string ⟨#[]⟩] 34)); have HK3 := Lib.hid ((HK1.out.belh hb).alloc (.cells #[.int .i64 0, .string ⟨#[]⟩, .string ⟨#[]⟩, .string ⟨#[]⟩] 34)); clear hb x0 x1 x2 x3 k0 k1 k2 k3; obtain ⟨x0, x1, x2, x3⟩ := cells4 HX3.out; obtain ⟨k0, k1, k2, k3⟩ := cells4 HK3.out; obtain ⟨r0, r1, r2, r3⟩ := cells4 HR3.out; obtain ⟨v0, v1, v2, v3⟩ := frees4 HR3.out))
    | (go_at_call 60; ((with_reducible refine (HF.out _).mono ?_); rintro e w3 ⟨rfl, hb⟩; have HB4 := Lib.hid (HB3.out.trans hb); have HR4 := Lib.hid (HR3.out.belh hb); clear hb x0 x1 x2 x3 k0 k1 k2 k3 r0 r1 r2 r3 v0 v1 v2 v3; obtain ⟨r0, r1, r2, r3⟩ := cells4 HR4.out; obtain ⟨v0, v1, v2, v3⟩ := frees4 HR4.out)))
  all_goals first
    | ((with_reducible apply pst_set (k := 4) (g := w.heap.size + 1)); (case hf => rfl); (case hp => rfl); (case hB => exact HR4.out); (case hb => exact HB4.out); (case hg => omega); rfl)
    | trace_state
set_option maxRecDepth 100000 in
set_option maxHeartbeats 3200000 in
theorem pcont20_yes (n a p : ByteArray) (t : HS) (c : UInt8) (w : World)
    (hc : ∀ W, Calls Try.prog 58 #[.agg #[.int .i64 20, .string n, .string a, .string p], .int .u8 c.toNat, .string ⟨#[60, 47, 115, 116, 121, 108, 101]⟩] W (SvB (.agg #[.int .i64 (t.c : Nat), .string (ofL t.n), .string (ofL t.a), .string (ofL t.p)]) true W)) :
    Calls Try.prog 32 #[.agg #[.int .i64 20, .string n, .string a, .string p], .int .u8 c.toNat] w (SvV t.val w) := by
  have HC := Lib.hid hc
  clear hc
  have HB2 := Lib.hid ((Bel.alloc w (.cells #[.int .i64 20, .string n, .string a, .string p] 34)).trans (Bel.alloc (w.alloc (.cells #[.int .i64 20, .string n, .string a, .string p] 34)) (.cells #[.int .i64 0, .string ⟨#[]⟩, .string ⟨#[]⟩, .string ⟨#[]⟩] 34)))
  have HR2 := Lib.hid (blk_at1h w (.cells #[.int .i64 20, .string n, .string a, .string p] 34) 34 [.int .i64 0, .string ⟨#[]⟩, .string ⟨#[]⟩, .string ⟨#[]⟩])
  have HX2 := Lib.hid ((Blk.new w 34 [.int .i64 20, .string n, .string a, .string p]).alloc (.cells #[.int .i64 0, .string ⟨#[]⟩, .string ⟨#[]⟩, .string ⟨#[]⟩] 34))
  have HE : Hid (∀ W, Calls Try.prog 57 #[.int .i64 20] W (SvV (.agg #[.string ⟨#[60, 47, 115, 116, 121, 108, 101]⟩, .int .i64 19, .int .i64 20, .int .i64 21]) W)) := Lib.hid (fun W => pelem19_c 20 (by decide) W)
  go_enter Try.func32, Try.ntmps32
  go_wp2_with (first
    | (go_at_call 57; ((with_reducible refine (HE.out _).mono ?_); rintro e w1 ⟨rfl, hb⟩; have HB1 := Lib.hid ((HB2.out.trans hb).trans (Bel.alloc w1 (.cells #[.string ⟨#[60, 47, 115, 116, 121, 108, 101]⟩, .int .i64 19, .int .i64 20, .int .i64 21] 81))); have HR1 := Lib.hid ((HR2.out.belh hb).alloc (.cells #[.string ⟨#[60, 47, 115, 116, 121, 108, 101]⟩, .int .i64 19, .int .i64 20, .int .i64 21] 81)); have HX1 := Lib.hid ((HX2.out.belh hb).alloc (.cells #[.string ⟨#[60, 47, 115, 116, 121, 108, 101]⟩, .int .i64 19, .int .i64 20, .int .i64 21] 81)); have HK1 := Lib.hid (Blk.new w1 81 [.string ⟨#[60, 47, 115, 116, 121, 108, 101]⟩, .int .i64 19, .int .i64 20, .int .i64 21]); clear hb; obtain ⟨x0, x1, x2, x3⟩ := cells4 HX1.out; obtain ⟨k0, k1, k2, k3⟩ := cells4 HK1.out))
    | (go_at_call 58; ((with_reducible refine (HC.out _).mono ?_); rintro e w2 ⟨rfl, hb⟩; have HB3 := Lib.hid ((HB1.out.trans hb).trans (Bel.alloc w2 (.cells #[.int .i64 (t.c : Nat), .string (ofL t.n), .string (ofL t.a), .string (ofL t.p)] 34))); have HR3 := Lib.hid ((HR1.out.belh hb).alloc (.cells #[.int .i64 (t.c : Nat), .string (ofL t.n), .string (ofL t.a), .string (ofL t.p)] 34)); have HX3 := Lib.hid ((HX1.out.belh hb).alloc (.cells #[.int .i64 (t.c : Nat), .string (ofL t.n), .string (ofL t.a), .string (ofL t.p)] 34)); have HK3 := Lib.hid ((HK1.out.belh hb).alloc (.cells #[.int .i64 (t.c : Nat), .string (ofL t.n), .string (ofL t.a), .string (ofL t.p)] 34)); clear hb x0 x1 x2 x3 k0 k1 k2 k3; obtain ⟨x0, x1, x2, x3⟩ := cells4 HX3.out; obtain ⟨k0, k1, k2, k3⟩ := cells4 HK3.out; obtain ⟨r0, r1, r2, r3⟩ := cells4 HR3.out; obtain ⟨v0, v1, v2, v3⟩ := frees4 HR3.out)))
  all_goals first
    | ((with_reducible apply pst_set (k := 4) (g := w.heap.size + 1)); (case hf => rfl); (case hp => rfl); (case hB => exact HR3.out); (case hb => exact HB3.out); (case hg => omega); rfl)
    | trace_state
set_option maxRecDepth 100000 in
set_option maxHeartbeats 3200000 in
theorem pcont20_no (n a p : ByteArray) (t : HS) (c : UInt8) (w : World)
    (hc : ∀ W, Calls Try.prog 58 #[.agg #[.int .i64 20, .string n, .string a, .string p], .int .u8 c.toNat, .string ⟨#[60, 47, 115, 116, 121, 108, 101]⟩] W (SvB (.agg #[.int .i64 0, .string ⟨#[]⟩, .string ⟨#[]⟩, .string ⟨#[]⟩]) false W))
    (hf : ∀ W, Calls Try.prog 59 #[.agg #[.int .i64 20, .string n, .string a, .string p], .int .u8 c.toNat, .int .u8 34, .int .i64 19] W (SvV (.agg #[.int .i64 (t.c : Nat), .string (ofL t.n), .string (ofL t.a), .string (ofL t.p)]) W)) :
    Calls Try.prog 32 #[.agg #[.int .i64 20, .string n, .string a, .string p], .int .u8 c.toNat] w (SvV t.val w) := by
  have HC := Lib.hid hc
  have HF := Lib.hid hf
  clear hc hf
  have HB2 := Lib.hid ((Bel.alloc w (.cells #[.int .i64 20, .string n, .string a, .string p] 34)).trans (Bel.alloc (w.alloc (.cells #[.int .i64 20, .string n, .string a, .string p] 34)) (.cells #[.int .i64 0, .string ⟨#[]⟩, .string ⟨#[]⟩, .string ⟨#[]⟩] 34)))
  have HR2 := Lib.hid (blk_at1h w (.cells #[.int .i64 20, .string n, .string a, .string p] 34) 34 [.int .i64 0, .string ⟨#[]⟩, .string ⟨#[]⟩, .string ⟨#[]⟩])
  have HX2 := Lib.hid ((Blk.new w 34 [.int .i64 20, .string n, .string a, .string p]).alloc (.cells #[.int .i64 0, .string ⟨#[]⟩, .string ⟨#[]⟩, .string ⟨#[]⟩] 34))
  have HE : Hid (∀ W, Calls Try.prog 57 #[.int .i64 20] W (SvV (.agg #[.string ⟨#[60, 47, 115, 116, 121, 108, 101]⟩, .int .i64 19, .int .i64 20, .int .i64 21]) W)) := Lib.hid (fun W => pelem19_c 20 (by decide) W)
  go_enter Try.func32, Try.ntmps32
  go_wp2_with (first
    | (go_at_call 57; ((with_reducible refine (HE.out _).mono ?_); rintro e w1 ⟨rfl, hb⟩; have HB1 := Lib.hid ((HB2.out.trans hb).trans (Bel.alloc w1 (.cells #[.string ⟨#[60, 47, 115, 116, 121, 108, 101]⟩, .int .i64 19, .int .i64 20, .int .i64 21] 81))); have HR1 := Lib.hid ((HR2.out.belh hb).alloc (.cells #[.string ⟨#[60, 47, 115, 116, 121, 108, 101]⟩, .int .i64 19, .int .i64 20, .int .i64 21] 81)); have HX1 := Lib.hid ((HX2.out.belh hb).alloc (.cells #[.string ⟨#[60, 47, 115, 116, 121, 108, 101]⟩, .int .i64 19, .int .i64 20, .int .i64 21] 81)); have HK1 := Lib.hid (Blk.new w1 81 [.string ⟨#[60, 47, 115, 116, 121, 108, 101]⟩, .int .i64 19, .int .i64 20, .int .i64 21]); clear hb; obtain ⟨x0, x1, x2, x3⟩ := cells4 HX1.out; obtain ⟨k0, k1, k2, k3⟩ := cells4 HK1.out))
    | (go_at_call 58; ((with_reducible refine (HC.out _).mono ?_); rintro e w2 ⟨rfl, hb⟩; have HB3 := Lib.hid ((HB1.out.trans hb).trans (Bel.alloc w2 (.cells #[.int .i64 0, .string ⟨#[]⟩, .string ⟨#[]⟩, .string ⟨#[]⟩] 34))); have HR3 := Lib.hid ((HR1.out.belh hb).alloc (.cells #[.int .i64 0, .string ⟨#[]⟩, .string ⟨#[]⟩, .string ⟨#[]⟩] 34)); have HX3 := Lib.hid ((HX1.out.belh hb).alloc (.cells #[.int .i64 0, .string ⟨#[]⟩, .string ⟨#[]⟩, .string ⟨#[]⟩] 34)); have HK3 := Lib.hid ((HK1.out.belh hb).alloc (.cells #[.int .i64 0, .string ⟨#[]⟩, .string ⟨#[]⟩, .string ⟨#[]⟩] 34)); clear hb x0 x1 x2 x3 k0 k1 k2 k3; obtain ⟨x0, x1, x2, x3⟩ := cells4 HX3.out; obtain ⟨k0, k1, k2, k3⟩ := cells4 HK3.out; obtain ⟨r0, r1, r2, r3⟩ := cells4 HR3.out; obtain ⟨v0, v1, v2, v3⟩ := frees4 HR3.out))
    | (go_at_call 59; ((with_reducible refine (HF.out _).mono ?_); rintro e w3 ⟨rfl, hb⟩; have HB4 := Lib.hid (HB3.out.trans hb); have HR4 := Lib.hid (HR3.out.belh hb); clear hb x0 x1 x2 x3 k0 k1 k2 k3 r0 r1 r2 r3 v0 v1 v2 v3; obtain ⟨r0, r1, r2, r3⟩ := cells4 HR4.out; obtain ⟨v0, v1, v2, v3⟩ := frees4 HR4.out)))
  all_goals first
    | ((with_reducible apply pst_set (k := 4) (g := w.heap.size + 1)); (case hf => rfl); (case hp => rfl); (case hB => exact HR4.out); (case hb => exact HB4.out); (case hg => omega); rfl)
    | trace_state
set_option maxRecDepth 100000 in
set_option maxHeartbeats 3200000 in
theorem pcont21_yes (n a p : ByteArray) (t : HS) (c : UInt8) (w : World)
    (hc : ∀ W, Calls Try.prog 58 #[.agg #[.int .i64 21, .string n, .string a, .string p], .int .u8 c.toNat, .string ⟨#[60, 47, 115, 116, 121, 108, 101]⟩] W (SvB (.agg #[.int .i64 (t.c : Nat), .string (ofL t.n), .string (ofL t.a), .string (ofL t.p)]) true W)) :
    Calls Try.prog 32 #[.agg #[.int .i64 21, .string n, .string a, .string p], .int .u8 c.toNat] w (SvV t.val w) := by
  have HC := Lib.hid hc
  clear hc
  have HB2 := Lib.hid ((Bel.alloc w (.cells #[.int .i64 21, .string n, .string a, .string p] 34)).trans (Bel.alloc (w.alloc (.cells #[.int .i64 21, .string n, .string a, .string p] 34)) (.cells #[.int .i64 0, .string ⟨#[]⟩, .string ⟨#[]⟩, .string ⟨#[]⟩] 34)))
  have HR2 := Lib.hid (blk_at1h w (.cells #[.int .i64 21, .string n, .string a, .string p] 34) 34 [.int .i64 0, .string ⟨#[]⟩, .string ⟨#[]⟩, .string ⟨#[]⟩])
  have HX2 := Lib.hid ((Blk.new w 34 [.int .i64 21, .string n, .string a, .string p]).alloc (.cells #[.int .i64 0, .string ⟨#[]⟩, .string ⟨#[]⟩, .string ⟨#[]⟩] 34))
  have HE : Hid (∀ W, Calls Try.prog 57 #[.int .i64 21] W (SvV (.agg #[.string ⟨#[60, 47, 115, 116, 121, 108, 101]⟩, .int .i64 19, .int .i64 20, .int .i64 21]) W)) := Lib.hid (fun W => pelem19_c 21 (by decide) W)
  go_enter Try.func32, Try.ntmps32
  go_wp2_with (first
    | (go_at_call 57; ((with_reducible refine (HE.out _).mono ?_); rintro e w1 ⟨rfl, hb⟩; have HB1 := Lib.hid ((HB2.out.trans hb).trans (Bel.alloc w1 (.cells #[.string ⟨#[60, 47, 115, 116, 121, 108, 101]⟩, .int .i64 19, .int .i64 20, .int .i64 21] 81))); have HR1 := Lib.hid ((HR2.out.belh hb).alloc (.cells #[.string ⟨#[60, 47, 115, 116, 121, 108, 101]⟩, .int .i64 19, .int .i64 20, .int .i64 21] 81)); have HX1 := Lib.hid ((HX2.out.belh hb).alloc (.cells #[.string ⟨#[60, 47, 115, 116, 121, 108, 101]⟩, .int .i64 19, .int .i64 20, .int .i64 21] 81)); have HK1 := Lib.hid (Blk.new w1 81 [.string ⟨#[60, 47, 115, 116, 121, 108, 101]⟩, .int .i64 19, .int .i64 20, .int .i64 21]); clear hb; obtain ⟨x0, x1, x2, x3⟩ := cells4 HX1.out; obtain ⟨k0, k1, k2, k3⟩ := cells4 HK1.out))
    | (go_at_call 58; ((with_reducible refine (HC.out _).mono ?_); rintro e w2 ⟨rfl, hb⟩; have HB3 := Lib.hid ((HB1.out.trans hb).trans (Bel.alloc w2 (.cells #[.int .i64 (t.c : Nat), .string (ofL t.n), .string (ofL t.a), .string (ofL t.p)] 34))); have HR3 := Lib.hid ((HR1.out.belh hb).alloc (.cells #[.int .i64 (t.c : Nat), .string (ofL t.n), .string (ofL t.a), .string (ofL t.p)] 34)); have HX3 := Lib.hid ((HX1.out.belh hb).alloc (.cells #[.int .i64 (t.c : Nat), .string (ofL t.n), .string (ofL t.a), .string (ofL t.p)] 34)); have HK3 := Lib.hid ((HK1.out.belh hb).alloc (.cells #[.int .i64 (t.c : Nat), .string (ofL t.n), .string (ofL t.a), .string (ofL t.p)] 34)); clear hb x0 x1 x2 x3 k0 k1 k2 k3; obtain ⟨x0, x1, x2, x3⟩ := cells4 HX3.out; obtain ⟨k0, k1, k2, k3⟩ := cells4 HK3.out; obtain ⟨r0, r1, r2, r3⟩ := cells4 HR3.out; obtain ⟨v0, v1, v2, v3⟩ := frees4 HR3.out)))
  all_goals first
    | ((with_reducible apply pst_set (k := 4) (g := w.heap.size + 1)); (case hf => rfl); (case hp => rfl); (case hB => exact HR3.out); (case hb => exact HB3.out); (case hg => omega); rfl)
    | trace_state
set_option maxRecDepth 100000 in
set_option maxHeartbeats 3200000 in
theorem pcont21_no (n a p : ByteArray) (t : HS) (c : UInt8) (w : World)
    (hc : ∀ W, Calls Try.prog 58 #[.agg #[.int .i64 21, .string n, .string a, .string p], .int .u8 c.toNat, .string ⟨#[60, 47, 115, 116, 121, 108, 101]⟩] W (SvB (.agg #[.int .i64 0, .string ⟨#[]⟩, .string ⟨#[]⟩, .string ⟨#[]⟩]) false W))
    (hf : ∀ W, Calls Try.prog 59 #[.agg #[.int .i64 21, .string n, .string a, .string p], .int .u8 c.toNat, .int .u8 39, .int .i64 19] W (SvV (.agg #[.int .i64 (t.c : Nat), .string (ofL t.n), .string (ofL t.a), .string (ofL t.p)]) W)) :
    Calls Try.prog 32 #[.agg #[.int .i64 21, .string n, .string a, .string p], .int .u8 c.toNat] w (SvV t.val w) := by
  have HC := Lib.hid hc
  have HF := Lib.hid hf
  clear hc hf
  have HB2 := Lib.hid ((Bel.alloc w (.cells #[.int .i64 21, .string n, .string a, .string p] 34)).trans (Bel.alloc (w.alloc (.cells #[.int .i64 21, .string n, .string a, .string p] 34)) (.cells #[.int .i64 0, .string ⟨#[]⟩, .string ⟨#[]⟩, .string ⟨#[]⟩] 34)))
  have HR2 := Lib.hid (blk_at1h w (.cells #[.int .i64 21, .string n, .string a, .string p] 34) 34 [.int .i64 0, .string ⟨#[]⟩, .string ⟨#[]⟩, .string ⟨#[]⟩])
  have HX2 := Lib.hid ((Blk.new w 34 [.int .i64 21, .string n, .string a, .string p]).alloc (.cells #[.int .i64 0, .string ⟨#[]⟩, .string ⟨#[]⟩, .string ⟨#[]⟩] 34))
  have HE : Hid (∀ W, Calls Try.prog 57 #[.int .i64 21] W (SvV (.agg #[.string ⟨#[60, 47, 115, 116, 121, 108, 101]⟩, .int .i64 19, .int .i64 20, .int .i64 21]) W)) := Lib.hid (fun W => pelem19_c 21 (by decide) W)
  go_enter Try.func32, Try.ntmps32
  go_wp2_with (first
    | (go_at_call 57; ((with_reducible refine (HE.out _).mono ?_); rintro e w1 ⟨rfl, hb⟩; have HB1 := Lib.hid ((HB2.out.trans hb).trans (Bel.alloc w1 (.cells #[.string ⟨#[60, 47, 115, 116, 121, 108, 101]⟩, .int .i64 19, .int .i64 20, .int .i64 21] 81))); have HR1 := Lib.hid ((HR2.out.belh hb).alloc (.cells #[.string ⟨#[60, 47, 115, 116, 121, 108, 101]⟩, .int .i64 19, .int .i64 20, .int .i64 21] 81)); have HX1 := Lib.hid ((HX2.out.belh hb).alloc (.cells #[.string ⟨#[60, 47, 115, 116, 121, 108, 101]⟩, .int .i64 19, .int .i64 20, .int .i64 21] 81)); have HK1 := Lib.hid (Blk.new w1 81 [.string ⟨#[60, 47, 115, 116, 121, 108, 101]⟩, .int .i64 19, .int .i64 20, .int .i64 21]); clear hb; obtain ⟨x0, x1, x2, x3⟩ := cells4 HX1.out; obtain ⟨k0, k1, k2, k3⟩ := cells4 HK1.out))
    | (go_at_call 58; ((with_reducible refine (HC.out _).mono ?_); rintro e w2 ⟨rfl, hb⟩; have HB3 := Lib.hid ((HB1.out.trans hb).trans (Bel.alloc w2 (.cells #[.int .i64 0, .string ⟨#[]⟩, .string ⟨#[]⟩, .string ⟨#[]⟩] 34))); have HR3 := Lib.hid ((HR1.out.belh hb).alloc (.cells #[.int .i64 0, .string ⟨#[]⟩, .string ⟨#[]⟩, .string ⟨#[]⟩] 34)); have HX3 := Lib.hid ((HX1.out.belh hb).alloc (.cells #[.int .i64 0, .string ⟨#[]⟩, .string ⟨#[]⟩, .string ⟨#[]⟩] 34)); have HK3 := Lib.hid ((HK1.out.belh hb).alloc (.cells #[.int .i64 0, .string ⟨#[]⟩, .string ⟨#[]⟩, .string ⟨#[]⟩] 34)); clear hb x0 x1 x2 x3 k0 k1 k2 k3; obtain ⟨x0, x1, x2, x3⟩ := cells4 HX3.out; obtain ⟨k0, k1, k2, k3⟩ := cells4 HK3.out; obtain ⟨r0, r1, r2, r3⟩ := cells4 HR3.out; obtain ⟨v0, v1, v2, v3⟩ := frees4 HR3.out))
    | (go_at_call 59; ((with_reducible refine (HF.out _).mono ?_); rintro e w3 ⟨rfl, hb⟩; have HB4 := Lib.hid (HB3.out.trans hb); have HR4 := Lib.hid (HR3.out.belh hb); clear hb x0 x1 x2 x3 k0 k1 k2 k3 r0 r1 r2 r3 v0 v1 v2 v3; obtain ⟨r0, r1, r2, r3⟩ := cells4 HR4.out; obtain ⟨v0, v1, v2, v3⟩ := frees4 HR4.out)))
  all_goals first
    | ((with_reducible apply pst_set (k := 4) (g := w.heap.size + 1)); (case hf => rfl); (case hp => rfl); (case hB => exact HR4.out); (case hb => exact HB4.out); (case hg => omega); rfl)
    | trace_state
theorem pre_iff (p : List UInt8) : preB p [60] = true ↔ p.head? = some 60 := by
  cases p with
  | nil => simp [preB]
  | cons d q => simp [preB]
theorem preE_iff {E p : List UInt8} {l : UInt8} (h : p = E.take p.length) (hl : p.length < E.length) : preB E (p ++ [l]) = true ↔ E[p.length]? = some l := by
  unfold preB
  rw [decide_eq_true_iff, List.length_append]
  show E.take (p.length + 1) = _ ↔ _
  rw [List.take_add_one, ← h, List.getElem?_eq_getElem hl]
  simp
theorem eqE_next {E p : List UInt8} {l : UInt8} (h : p ++ [l] = E) : E[p.length]? = some l := by
  rw [← h]
  simp
theorem pt_head {k : Nat} {p : List UInt8} (h : PtOk k p) (hd : p.head? = some 60) : p.length < (endL k).length ∧ p = (endL k).take p.length := by
  rcases h with rfl | ⟨rfl, _⟩ | ⟨_, h1, h2⟩
  · simp at hd
  · simp at hd
  · exact ⟨h1, h2⟩
theorem endLen (k : Nat) : (endL k).length ≤ 8 := by
  unfold endL
  split <;> decide
theorem pt_len {k : Nat} {p : List UInt8} (h : PtOk k p) : p.length ≤ 1000 := by
  have := endLen k
  rcases h with rfl | ⟨rfl, _⟩ | ⟨_, h1, h2⟩
  · simp
  · simp
  · omega
/-- What is left where no end string begins or goes on. -/
def restS (k : Nat) (p : List UInt8) (c : UInt8) : HS := if k = codeC k then codeS k (k + 1) (k + 2) c else strS k p c (if k = codeC k + 2 then 39 else 34) (codeC k)
theorem rest_eq {k : Nat} {p : List UInt8} (c : UInt8) (hpt : PtOk k p) (h60 : ¬ c = 60) (hno : ¬ (p.head? = some 60 ∧ (endL k)[p.length]? = some (lowB c))) : rawS ⟨k, [], [], p⟩ c = restS k p c := by
  unfold rawS restS
  simp only
  rw [if_neg hno, if_neg h60]
  by_cases hk : k = codeC k
  · rw [if_pos hk]
    have hp : ¬ p = [92] := by
      rintro rfl
      rcases hpt with h | ⟨_, h⟩ | ⟨_, _, h⟩
      · simp at h
      · exact h hk
      · simp [endL] at h
    rw [if_neg hp, if_pos hk]
    unfold codeS
    by_cases h1 : c = 34
    · rw [if_pos h1, if_pos h1, ← hk]; rfl
    · rw [if_neg h1, if_neg h1]
      by_cases h2 : c = 39
      · rw [if_pos h2, if_pos h2, ← hk]; rfl
      · rw [if_neg h2, if_neg h2]; rfl
  · rw [if_neg hk]
    unfold strS
    by_cases hp : p = [92]
    · rw [if_pos hp, if_pos hp, if_neg hk]; rfl
    · rw [if_neg hp, if_neg hp, if_neg hk]
      by_cases h1 : c = (if k = codeC k + 2 then 39 else 34) ∨ c = 10
      · rw [if_pos h1, if_pos h1]
        have : ¬ c = 92 := by
          rintro rfl
          rcases h1 with h1 | h1
          · split at h1 <;> exact absurd h1 (by decide)
          · exact absurd h1 (by decide)
        rw [if_neg this]; rfl
      · rw [if_neg h1, if_neg h1]
        by_cases h2 : c = 92
        · rw [if_pos h2, if_pos h2]
        · rw [if_neg h2, if_neg h2]; rfl
theorem cont_pure (k : Nat) (p : List UInt8) (c : UInt8) (hpt : PtOk k p) :
    (endB p c (endL k) = true ∧ endS k p c (endL k) = rawS ⟨k, [], [], p⟩ c) ∨ (endB p c (endL k) = false ∧ endS k p c (endL k) = s0 0 ∧ rawS ⟨k, [], [], p⟩ c = restS k p c) := by
  have h60 : ((c.toNat : Int) == 60) = true ↔ c = 60 := by rw [u8_iff, beq_iff_eq]; rfl
  have he : ((ofL (p ++ [lowB c])).toList == (ofL (endL k)).toList) = true ↔ p ++ [lowB c] = endL k := by rw [ofL_list, ofL_list, beq_iff_eq]
  by_cases hno : p.head? = some 60 ∧ (endL k)[p.length]? = some (lowB c)
  · obtain ⟨hd, hx⟩ := hno
    obtain ⟨hl, ht⟩ := pt_head hpt hd
    refine .inl ?_
    unfold endB endS rawS
    simp only [pre_iff, he, preE_iff ht hl, hd, hx, if_true, and_self]
    split <;> exact ⟨rfl, trivial⟩
  · have e1 : preB p [60] = true → ¬ (((ofL (p ++ [lowB c])).toList == (ofL (endL k)).toList) = true) ∧ ¬ (preB (endL k) (p ++ [lowB c]) = true) := by
      intro h
      have hd := (pre_iff p).1 h
      obtain ⟨hl, ht⟩ := pt_head hpt hd
      refine ⟨fun h1 => hno ⟨hd, eqE_next (he.1 h1)⟩, fun h1 => hno ⟨hd, (preE_iff ht hl).1 h1⟩⟩
    by_cases hc : c = 60
    · refine .inl ?_
      have hr : rawS ⟨k, [], [], p⟩ c = ⟨k, [], [], [60]⟩ := by
        unfold rawS
        simp only
        rw [if_neg hno, if_pos hc]
      rw [hr]
      unfold endB endS
      by_cases h : preB p [60] = true
      · rw [if_pos h, if_pos h, if_neg (e1 h).1, if_neg (e1 h).1, if_neg (e1 h).2, if_neg (e1 h).2, if_pos (h60.2 hc), if_pos (h60.2 hc)]; exact ⟨rfl, rfl⟩
      · rw [if_neg h, if_neg h, if_pos (h60.2 hc), if_pos (h60.2 hc)]; exact ⟨rfl, rfl⟩
    · refine .inr ⟨?_, ?_, rest_eq c hpt hc hno⟩
      · unfold endB
        by_cases h : preB p [60] = true
        · rw [if_pos h, if_neg (e1 h).1, if_neg (e1 h).2, if_neg (fun x => hc (h60.1 x))]
        · rw [if_neg h, if_neg (fun x => hc (h60.1 x))]
      · unfold endS
        by_cases h : preB p [60] = true
        · rw [if_pos h, if_neg (e1 h).1, if_neg (e1 h).2, if_neg (fun x => hc (h60.1 x))]
        · rw [if_neg h, if_neg (fun x => hc (h60.1 x))]
/-- Contents. -/
theorem pcontent_c (k : Nat) (h1 : 16 ≤ k) (h2 : k ≤ 21) (p : List UInt8) (hpt : PtOk k p) (c : UInt8) (w : World) : Calls Try.prog 32 #[stV (k : Nat) ⟨#[]⟩ ⟨#[]⟩ (ofL p), .int .u8 c.toNat] w (SvP (rawS ⟨k, [], [], p⟩ c) w) := by
  have hend := fun W => pend_c k ⟨#[]⟩ ⟨#[]⟩ p (endL k) c W (pt_len hpt) (by have := endLen k; omega)
  have hk : k = 16 ∨ k = 17 ∨ k = 18 ∨ k = 19 ∨ k = 20 ∨ k = 21 := by omega
  rcases cont_pure k p c hpt with ⟨hb, he⟩ | ⟨hb, he, hr⟩
  · rw [hb, he] at hend
    rcases hk with rfl | rfl | rfl | rfl | rfl | rfl
    · exact pcont16_yes _ _ _ _ c w hend
    · exact pcont17_yes _ _ _ _ c w hend
    · exact pcont18_yes _ _ _ _ c w hend
    · exact pcont19_yes _ _ _ _ c w hend
    · exact pcont20_yes _ _ _ _ c w hend
    · exact pcont21_yes _ _ _ _ c w hend
  · rw [hb, he] at hend
    rw [hr]
    rcases hk with rfl | rfl | rfl | rfl | rfl | rfl
    · exact pcont16_no _ _ _ (codeS 16 17 18 c) c w hend fun W => pcode_c _ 16 17 18 c W
    · exact pcont17_no _ _ _ (strS 17 p c 34 16) c w hend fun W => pstring_c 17 16 _ _ p c 34 W
    · exact pcont18_no _ _ _ (strS 18 p c 39 16) c w hend fun W => pstring_c 18 16 _ _ p c 39 W
    · exact pcont19_no _ _ _ (codeS 19 20 21 c) c w hend fun W => pcode_c _ 19 20 21 c W
    · exact pcont20_no _ _ _ (strS 20 p c 34 19) c w hend fun W => pstring_c 20 19 _ _ p c 34 W
    · exact pcont21_no _ _ _ (strS 21 p c 39 19) c w hend fun W => pstring_c 21 19 _ _ p c 39 W
set_option maxRecDepth 100000 in
set_option maxHeartbeats 3200000 in
theorem ptg_open (k : Int) (N A' P : ByteArray) (t : HS) (c : UInt8) (w : World) (h62 : ((c.toNat : Int) == 62) = true)
    (hc : ∀ W, Calls Try.prog 50 #[.agg #[.int .i64 k, .string N, .string A', .string P]] W (SvV (.agg #[.int .i64 (t.c : Nat), .string (ofL t.n), .string (ofL t.a), .string (ofL t.p)]) W)) :
    Calls Try.prog 30 #[stV k N A' P, .int .u8 c.toNat] w (SvV t.val w) := by
  unfold stV
  have HC := Lib.hid hc
  clear hc
  have HB2 := Lib.hid ((Bel.alloc w (.cells #[.int .i64 k, .string N, .string A', .string P] 34)).trans (Bel.alloc (w.alloc (.cells #[.int .i64 k, .string N, .string A', .string P] 34)) (.cells #[.int .i64 0, .string ⟨#[]⟩, .string ⟨#[]⟩, .string ⟨#[]⟩] 34)))
  have HR2 := Lib.hid (blk_at1h w (.cells #[.int .i64 k, .string N, .string A', .string P] 34) 34 [.int .i64 0, .string ⟨#[]⟩, .string ⟨#[]⟩, .string ⟨#[]⟩])
  go_enter Try.func30, Try.ntmps30
  go_wp2_with (go_at_call 50; ((with_reducible refine (HC.out _).mono ?_); rintro e w2 ⟨rfl, hb⟩; have HB := Lib.hid (HB2.out.trans hb); have HR := Lib.hid (HR2.out.belh hb); clear hb; obtain ⟨r0, r1, r2, r3⟩ := cells4 HR.out; obtain ⟨v0, v1, v2, v3⟩ := frees4 HR.out))
  all_goals first
    | ((with_reducible apply pst_set (k := 4) (g := w.heap.size + 1)); (case hf => rfl); (case hp => rfl); (case hB => exact HR.out); (case hb => exact HB.out); (case hg => omega); rfl)
    | trace_state
set_option maxRecDepth 100000 in
set_option maxHeartbeats 3200000 in
theorem ptg_1 (N A' P : ByteArray) (t : HS) (c : UInt8) (w : World) (h62 : ((c.toNat : Int) == 62) = false)
    (hc : ∀ W, Calls Try.prog 56 #[.agg #[.int .i64 1, .string N, .string A', .string P], .int .u8 c.toNat] W (SvV (.agg #[.int .i64 (t.c : Nat), .string (ofL t.n), .string (ofL t.a), .string (ofL t.p)]) W)) :
    Calls Try.prog 30 #[stV 1 N A' P, .int .u8 c.toNat] w (SvV t.val w) := by
  unfold stV
  have HC := Lib.hid hc
  clear hc
  have HB2 := Lib.hid ((Bel.alloc w (.cells #[.int .i64 1, .string N, .string A', .string P] 34)).trans (Bel.alloc (w.alloc (.cells #[.int .i64 1, .string N, .string A', .string P] 34)) (.cells #[.int .i64 0, .string ⟨#[]⟩, .string ⟨#[]⟩, .string ⟨#[]⟩] 34)))
  have HR2 := Lib.hid (blk_at1h w (.cells #[.int .i64 1, .string N, .string A', .string P] 34) 34 [.int .i64 0, .string ⟨#[]⟩, .string ⟨#[]⟩, .string ⟨#[]⟩])
  go_enter Try.func30, Try.ntmps30
  go_wp2_with (go_at_call 56; ((with_reducible refine (HC.out _).mono ?_); rintro e w2 ⟨rfl, hb⟩; have HB := Lib.hid (HB2.out.trans hb); have HR := Lib.hid (HR2.out.belh hb); clear hb; obtain ⟨r0, r1, r2, r3⟩ := cells4 HR.out; obtain ⟨v0, v1, v2, v3⟩ := frees4 HR.out))
  all_goals first
    | ((with_reducible apply pst_set (k := 4) (g := w.heap.size + 1)); (case hf => rfl); (case hp => rfl); (case hB => exact HR.out); (case hb => exact HB.out); (case hg => omega); rfl)
    | trace_state
set_option maxRecDepth 100000 in
set_option maxHeartbeats 3200000 in
theorem ptg_2 (N A' P : ByteArray) (t : HS) (c : UInt8) (w : World) (h62 : ((c.toNat : Int) == 62) = false)
    (hc : ∀ W, Calls Try.prog 51 #[.agg #[.int .i64 2, .string N, .string A', .string P], .int .u8 c.toNat] W (SvV (.agg #[.int .i64 (t.c : Nat), .string (ofL t.n), .string (ofL t.a), .string (ofL t.p)]) W)) :
    Calls Try.prog 30 #[stV 2 N A' P, .int .u8 c.toNat] w (SvV t.val w) := by
  unfold stV
  have HC := Lib.hid hc
  clear hc
  have HB2 := Lib.hid ((Bel.alloc w (.cells #[.int .i64 2, .string N, .string A', .string P] 34)).trans (Bel.alloc (w.alloc (.cells #[.int .i64 2, .string N, .string A', .string P] 34)) (.cells #[.int .i64 0, .string ⟨#[]⟩, .string ⟨#[]⟩, .string ⟨#[]⟩] 34)))
  have HR2 := Lib.hid (blk_at1h w (.cells #[.int .i64 2, .string N, .string A', .string P] 34) 34 [.int .i64 0, .string ⟨#[]⟩, .string ⟨#[]⟩, .string ⟨#[]⟩])
  go_enter Try.func30, Try.ntmps30
  go_wp2_with (go_at_call 51; ((with_reducible refine (HC.out _).mono ?_); rintro e w2 ⟨rfl, hb⟩; have HB := Lib.hid (HB2.out.trans hb); have HR := Lib.hid (HR2.out.belh hb); clear hb; obtain ⟨r0, r1, r2, r3⟩ := cells4 HR.out; obtain ⟨v0, v1, v2, v3⟩ := frees4 HR.out))
  all_goals first
    | ((with_reducible apply pst_set (k := 4) (g := w.heap.size + 1)); (case hf => rfl); (case hp => rfl); (case hB => exact HR.out); (case hb => exact HB.out); (case hg => omega); rfl)
    | trace_state
set_option maxRecDepth 100000 in
set_option maxHeartbeats 3200000 in
theorem ptg_3 (N A' P : ByteArray) (t : HS) (c : UInt8) (w : World) (h62 : ((c.toNat : Int) == 62) = false)
    (hc : ∀ W, Calls Try.prog 52 #[.agg #[.int .i64 3, .string N, .string A', .string P], .int .u8 c.toNat] W (SvV (.agg #[.int .i64 (t.c : Nat), .string (ofL t.n), .string (ofL t.a), .string (ofL t.p)]) W)) :
    Calls Try.prog 30 #[stV 3 N A' P, .int .u8 c.toNat] w (SvV t.val w) := by
  unfold stV
  have HC := Lib.hid hc
  clear hc
  have HB2 := Lib.hid ((Bel.alloc w (.cells #[.int .i64 3, .string N, .string A', .string P] 34)).trans (Bel.alloc (w.alloc (.cells #[.int .i64 3, .string N, .string A', .string P] 34)) (.cells #[.int .i64 0, .string ⟨#[]⟩, .string ⟨#[]⟩, .string ⟨#[]⟩] 34)))
  have HR2 := Lib.hid (blk_at1h w (.cells #[.int .i64 3, .string N, .string A', .string P] 34) 34 [.int .i64 0, .string ⟨#[]⟩, .string ⟨#[]⟩, .string ⟨#[]⟩])
  go_enter Try.func30, Try.ntmps30
  go_wp2_with (go_at_call 52; ((with_reducible refine (HC.out _).mono ?_); rintro e w2 ⟨rfl, hb⟩; have HB := Lib.hid (HB2.out.trans hb); have HR := Lib.hid (HR2.out.belh hb); clear hb; obtain ⟨r0, r1, r2, r3⟩ := cells4 HR.out; obtain ⟨v0, v1, v2, v3⟩ := frees4 HR.out))
  all_goals first
    | ((with_reducible apply pst_set (k := 4) (g := w.heap.size + 1)); (case hf => rfl); (case hp => rfl); (case hB => exact HR.out); (case hb => exact HB.out); (case hg => omega); rfl)
    | trace_state
set_option maxRecDepth 100000 in
set_option maxHeartbeats 3200000 in
theorem ptg_4 (N A' P : ByteArray) (t : HS) (c : UInt8) (w : World) (h62 : ((c.toNat : Int) == 62) = false)
    (hc : ∀ W, Calls Try.prog 53 #[.agg #[.int .i64 4, .string N, .string A', .string P], .int .u8 c.toNat] W (SvV (.agg #[.int .i64 (t.c : Nat), .string (ofL t.n), .string (ofL t.a), .string (ofL t.p)]) W)) :
    Calls Try.prog 30 #[stV 4 N A' P, .int .u8 c.toNat] w (SvV t.val w) := by
  unfold stV
  have HC := Lib.hid hc
  clear hc
  have HB2 := Lib.hid ((Bel.alloc w (.cells #[.int .i64 4, .string N, .string A', .string P] 34)).trans (Bel.alloc (w.alloc (.cells #[.int .i64 4, .string N, .string A', .string P] 34)) (.cells #[.int .i64 0, .string ⟨#[]⟩, .string ⟨#[]⟩, .string ⟨#[]⟩] 34)))
  have HR2 := Lib.hid (blk_at1h w (.cells #[.int .i64 4, .string N, .string A', .string P] 34) 34 [.int .i64 0, .string ⟨#[]⟩, .string ⟨#[]⟩, .string ⟨#[]⟩])
  go_enter Try.func30, Try.ntmps30
  go_wp2_with (go_at_call 53; ((with_reducible refine (HC.out _).mono ?_); rintro e w2 ⟨rfl, hb⟩; have HB := Lib.hid (HB2.out.trans hb); have HR := Lib.hid (HR2.out.belh hb); clear hb; obtain ⟨r0, r1, r2, r3⟩ := cells4 HR.out; obtain ⟨v0, v1, v2, v3⟩ := frees4 HR.out))
  all_goals first
    | ((with_reducible apply pst_set (k := 4) (g := w.heap.size + 1)); (case hf => rfl); (case hp => rfl); (case hB => exact HR.out); (case hb => exact HB.out); (case hg => omega); rfl)
    | trace_state
set_option maxRecDepth 100000 in
set_option maxHeartbeats 3200000 in
theorem ptg_5 (N A' P : ByteArray) (t : HS) (c : UInt8) (w : World) (h62 : ((c.toNat : Int) == 62) = false)
    (hc : ∀ W, Calls Try.prog 54 #[.agg #[.int .i64 5, .string N, .string A', .string P], .int .u8 c.toNat] W (SvV (.agg #[.int .i64 (t.c : Nat), .string (ofL t.n), .string (ofL t.a), .string (ofL t.p)]) W)) :
    Calls Try.prog 30 #[stV 5 N A' P, .int .u8 c.toNat] w (SvV t.val w) := by
  unfold stV
  have HC := Lib.hid hc
  clear hc
  have HB2 := Lib.hid ((Bel.alloc w (.cells #[.int .i64 5, .string N, .string A', .string P] 34)).trans (Bel.alloc (w.alloc (.cells #[.int .i64 5, .string N, .string A', .string P] 34)) (.cells #[.int .i64 0, .string ⟨#[]⟩, .string ⟨#[]⟩, .string ⟨#[]⟩] 34)))
  have HR2 := Lib.hid (blk_at1h w (.cells #[.int .i64 5, .string N, .string A', .string P] 34) 34 [.int .i64 0, .string ⟨#[]⟩, .string ⟨#[]⟩, .string ⟨#[]⟩])
  go_enter Try.func30, Try.ntmps30
  go_wp2_with (go_at_call 54; ((with_reducible refine (HC.out _).mono ?_); rintro e w2 ⟨rfl, hb⟩; have HB := Lib.hid (HB2.out.trans hb); have HR := Lib.hid (HR2.out.belh hb); clear hb; obtain ⟨r0, r1, r2, r3⟩ := cells4 HR.out; obtain ⟨v0, v1, v2, v3⟩ := frees4 HR.out))
  all_goals first
    | ((with_reducible apply pst_set (k := 4) (g := w.heap.size + 1)); (case hf => rfl); (case hp => rfl); (case hB => exact HR.out); (case hb => exact HB.out); (case hg => omega); rfl)
    | trace_state
set_option maxRecDepth 100000 in
set_option maxHeartbeats 3200000 in
theorem ptg_6 (N A' P : ByteArray) (t : HS) (c : UInt8) (w : World) (h62 : ((c.toNat : Int) == 62) = false)
    (hc : ∀ W, Calls Try.prog 55 #[.agg #[.int .i64 6, .string N, .string A', .string P], .int .u8 c.toNat] W (SvV (.agg #[.int .i64 (t.c : Nat), .string (ofL t.n), .string (ofL t.a), .string (ofL t.p)]) W)) :
    Calls Try.prog 30 #[stV 6 N A' P, .int .u8 c.toNat] w (SvV t.val w) := by
  unfold stV
  have HC := Lib.hid hc
  clear hc
  have HB2 := Lib.hid ((Bel.alloc w (.cells #[.int .i64 6, .string N, .string A', .string P] 34)).trans (Bel.alloc (w.alloc (.cells #[.int .i64 6, .string N, .string A', .string P] 34)) (.cells #[.int .i64 0, .string ⟨#[]⟩, .string ⟨#[]⟩, .string ⟨#[]⟩] 34)))
  have HR2 := Lib.hid (blk_at1h w (.cells #[.int .i64 6, .string N, .string A', .string P] 34) 34 [.int .i64 0, .string ⟨#[]⟩, .string ⟨#[]⟩, .string ⟨#[]⟩])
  go_enter Try.func30, Try.ntmps30
  go_wp2_with (go_at_call 55; ((with_reducible refine (HC.out _).mono ?_); rintro e w2 ⟨rfl, hb⟩; have HB := Lib.hid (HB2.out.trans hb); have HR := Lib.hid (HR2.out.belh hb); clear hb; obtain ⟨r0, r1, r2, r3⟩ := cells4 HR.out; obtain ⟨v0, v1, v2, v3⟩ := frees4 HR.out))
  all_goals first
    | ((with_reducible apply pst_set (k := 4) (g := w.heap.size + 1)); (case hf => rfl); (case hp => rfl); (case hB => exact HR.out); (case hb => exact HB.out); (case hg => omega); rfl)
    | trace_state
theorem spc_not {c : UInt8} (h : spcB c = true) : ¬ c = 47 ∧ ¬ c = 61 ∧ ¬ c = 34 ∧ ¬ c = 39 := by
  refine ⟨?_, ?_, ?_, ?_⟩ <;> (rintro rfl; exact absurd h (by decide))
theorem btV_eq (n a : List UInt8) (c : UInt8) (h62 : ¬ c = 62) : btV 1 n a [] c = HS.val (tagS ⟨1, n, a, []⟩ c) := by
  have e34 : ((c.toNat : Int) == 34) = true ↔ c = 34 := by rw [u8_iff, beq_iff_eq]; rfl
  have e39 : ((c.toNat : Int) == 39) = true ↔ c = 39 := by rw [u8_iff, beq_iff_eq]; rfl
  have e47 : ((c.toNat : Int) == 47) = true ↔ c = 47 := by rw [u8_iff, beq_iff_eq]; rfl
  have e61 : ((c.toNat : Int) == 61) = true ↔ c = 61 := by rw [u8_iff, beq_iff_eq]; rfl
  unfold btV tagS
  simp only [e34, e39, e47, e61]
  by_cases hs : spcB c = true
  · obtain ⟨q1, q2, q3, q4⟩ := spc_not hs
    simp [hs, q1, q2, q3, q4, h62, HS.val, stV, ofL_nil]
  · by_cases g1 : c = 47
    · subst g1; simp [hs, HS.val, stV, ofL_nil]
    · by_cases g2 : c = 61
      · subst g2; simp [hs, HS.val, stV, ofL_nil]
      · by_cases g3 : c = 34
        · subst g3; simp [hs, HS.val, stV, ofL_nil]
        · by_cases g4 : c = 39
          · subst g4; simp [hs, HS.val, stV, ofL_nil]
          · simp [hs, g1, g2, g3, g4, h62, HS.val, stV, ofL_nil]
theorem nmV_eq (n a : List UInt8) (c : UInt8) (h62 : ¬ c = 62) : nmV 2 n a [] c = HS.val (tagS ⟨2, n, a, []⟩ c) := by
  have e34 : ((c.toNat : Int) == 34) = true ↔ c = 34 := by rw [u8_iff, beq_iff_eq]; rfl
  have e39 : ((c.toNat : Int) == 39) = true ↔ c = 39 := by rw [u8_iff, beq_iff_eq]; rfl
  have e47 : ((c.toNat : Int) == 47) = true ↔ c = 47 := by rw [u8_iff, beq_iff_eq]; rfl
  have e61 : ((c.toNat : Int) == 61) = true ↔ c = 61 := by rw [u8_iff, beq_iff_eq]; rfl
  unfold nmV tagS
  simp only [e34, e39, e47, e61]
  by_cases hs : spcB c = true
  · obtain ⟨q1, q2, q3, q4⟩ := spc_not hs
    simp [hs, q1, q2, q3, q4, h62, HS.val, stV, ofL_nil]
  · by_cases g1 : c = 47
    · subst g1; simp [hs, HS.val, stV, ofL_nil]
    · by_cases g2 : c = 61
      · subst g2; simp [hs, HS.val, stV, ofL_nil]
      · by_cases g3 : c = 34
        · subst g3; simp [hs, HS.val, stV, ofL_nil]
        · by_cases g4 : c = 39
          · subst g4; simp [hs, HS.val, stV, ofL_nil]
          · simp [hs, g1, g2, g3, g4, h62, HS.val, stV, ofL_nil]
theorem atV_eq (n a : List UInt8) (c : UInt8) (h62 : ¬ c = 62) : atV n a c = HS.val (tagS ⟨3, n, a, []⟩ c) := by
  have e34 : ((c.toNat : Int) == 34) = true ↔ c = 34 := by rw [u8_iff, beq_iff_eq]; rfl
  have e39 : ((c.toNat : Int) == 39) = true ↔ c = 39 := by rw [u8_iff, beq_iff_eq]; rfl
  have e47 : ((c.toNat : Int) == 47) = true ↔ c = 47 := by rw [u8_iff, beq_iff_eq]; rfl
  have e61 : ((c.toNat : Int) == 61) = true ↔ c = 61 := by rw [u8_iff, beq_iff_eq]; rfl
  unfold atV tagS
  simp only [e34, e39, e47, e61]
  by_cases hs : spcB c = true
  · obtain ⟨q1, q2, q3, q4⟩ := spc_not hs
    simp [hs, q1, q2, q3, q4, h62, HS.val, stV, ofL_nil]
  · by_cases g1 : c = 47
    · subst g1; simp [hs, HS.val, stV, ofL_nil]
    · by_cases g2 : c = 61
      · subst g2; simp [hs, HS.val, stV, ofL_nil]
      · by_cases g3 : c = 34
        · subst g3; simp [hs, HS.val, stV, ofL_nil]
        · by_cases g4 : c = 39
          · subst g4; simp [hs, HS.val, stV, ofL_nil]
          · simp [hs, g1, g2, g3, g4, h62, HS.val, stV, ofL_nil]
theorem afV_eq (n a : List UInt8) (c : UInt8) (h62 : ¬ c = 62) : afV 4 n a [] c = HS.val (tagS ⟨4, n, a, []⟩ c) := by
  have e34 : ((c.toNat : Int) == 34) = true ↔ c = 34 := by rw [u8_iff, beq_iff_eq]; rfl
  have e39 : ((c.toNat : Int) == 39) = true ↔ c = 39 := by rw [u8_iff, beq_iff_eq]; rfl
  have e47 : ((c.toNat : Int) == 47) = true ↔ c = 47 := by rw [u8_iff, beq_iff_eq]; rfl
  have e61 : ((c.toNat : Int) == 61) = true ↔ c = 61 := by rw [u8_iff, beq_iff_eq]; rfl
  unfold afV tagS
  simp only [e34, e39, e47, e61]
  by_cases hs : spcB c = true
  · obtain ⟨q1, q2, q3, q4⟩ := spc_not hs
    simp [hs, q1, q2, q3, q4, h62, HS.val, stV, ofL_nil]
  · by_cases g1 : c = 47
    · subst g1; simp [hs, HS.val, stV, ofL_nil]
    · by_cases g2 : c = 61
      · subst g2; simp [hs, HS.val, stV, ofL_nil]
      · by_cases g3 : c = 34
        · subst g3; simp [hs, HS.val, stV, ofL_nil]
        · by_cases g4 : c = 39
          · subst g4; simp [hs, HS.val, stV, ofL_nil]
          · simp [hs, g1, g2, g3, g4, h62, HS.val, stV, ofL_nil]
theorem bvV_eq (n a : List UInt8) (c : UInt8) (h62 : ¬ c = 62) : bvV 5 n a [] c = HS.val (tagS ⟨5, n, a, []⟩ c) := by
  have e34 : ((c.toNat : Int) == 34) = true ↔ c = 34 := by rw [u8_iff, beq_iff_eq]; rfl
  have e39 : ((c.toNat : Int) == 39) = true ↔ c = 39 := by rw [u8_iff, beq_iff_eq]; rfl
  have e47 : ((c.toNat : Int) == 47) = true ↔ c = 47 := by rw [u8_iff, beq_iff_eq]; rfl
  have e61 : ((c.toNat : Int) == 61) = true ↔ c = 61 := by rw [u8_iff, beq_iff_eq]; rfl
  unfold bvV tagS
  simp only [e34, e39, e47, e61]
  by_cases hs : spcB c = true
  · obtain ⟨q1, q2, q3, q4⟩ := spc_not hs
    simp [hs, q1, q2, q3, q4, h62, HS.val, stV, ofL_nil]
  · by_cases g1 : c = 47
    · subst g1; simp [hs, HS.val, stV, ofL_nil]
    · by_cases g2 : c = 61
      · subst g2; simp [hs, HS.val, stV, ofL_nil]
      · by_cases g3 : c = 34
        · subst g3; simp [hs, HS.val, stV, ofL_nil]
        · by_cases g4 : c = 39
          · subst g4; simp [hs, HS.val, stV, ofL_nil]
          · simp [hs, g1, g2, g3, g4, h62, HS.val, stV, ofL_nil]
theorem uqV_eq (n a : List UInt8) (c : UInt8) (h62 : ¬ c = 62) : uqV 6 n a [] c = HS.val (tagS ⟨6, n, a, []⟩ c) := by
  have e34 : ((c.toNat : Int) == 34) = true ↔ c = 34 := by rw [u8_iff, beq_iff_eq]; rfl
  have e39 : ((c.toNat : Int) == 39) = true ↔ c = 39 := by rw [u8_iff, beq_iff_eq]; rfl
  have e47 : ((c.toNat : Int) == 47) = true ↔ c = 47 := by rw [u8_iff, beq_iff_eq]; rfl
  have e61 : ((c.toNat : Int) == 61) = true ↔ c = 61 := by rw [u8_iff, beq_iff_eq]; rfl
  unfold uqV tagS
  simp only [e34, e39, e47, e61]
  by_cases hs : spcB c = true
  · obtain ⟨q1, q2, q3, q4⟩ := spc_not hs
    simp [hs, q1, q2, q3, q4, h62, HS.val, stV, ofL_nil]
  · by_cases g1 : c = 47
    · subst g1; simp [hs, HS.val, stV, ofL_nil]
    · by_cases g2 : c = 61
      · subst g2; simp [hs, HS.val, stV, ofL_nil]
      · by_cases g3 : c = 34
        · subst g3; simp [hs, HS.val, stV, ofL_nil]
        · by_cases g4 : c = 39
          · subst g4; simp [hs, HS.val, stV, ofL_nil]
          · simp [hs, g1, g2, g3, g4, h62, HS.val, stV, ofL_nil]
/-- Tags. -/
theorem ptagS_c (k : Nat) (h1 : 1 ≤ k) (h6 : k ≤ 6) (n a : List UInt8) (hn : n.length ≤ 100000) (ha : a.length ≤ 100000) (c : UInt8) (w : World) : Calls Try.prog 30 #[stV (k : Nat) (ofL n) (ofL a) (ofL []), .int .u8 c.toNat] w (SvP (tagS ⟨k, n, a, []⟩ c) w) := by
  by_cases h62 : c = 62
  · have e : tagS ⟨k, n, a, []⟩ c = openS n := by unfold tagS; rw [if_pos ⟨h62, h6⟩]
    rw [e]
    exact ptg_open _ _ _ _ _ c w (ct h62 62 rfl) fun W => popen_c _ n _ _ W
  · have hf : ((c.toNat : Int) == 62) = false := cf h62 62 rfl
    have hk : k = 1 ∨ k = 2 ∨ k = 3 ∨ k = 4 ∨ k = 5 ∨ k = 6 := by omega
    rcases hk with rfl | rfl | rfl | rfl | rfl | rfl
    · exact ptg_1 _ _ _ _ c w hf fun W => by have h := pbetween_c 1 n a [] c W; rw [btV_eq n a c h62] at h; exact h
    · exact ptg_2 _ _ _ _ c w hf fun W => by have h := pname_c 2 n a [] c W hn; rw [nmV_eq n a c h62] at h; exact h
    · exact ptg_3 _ _ _ _ c w hf fun W => by have h := pattrname_c 3 n a [] c W ha; rw [atV_eq n a c h62] at h; exact h
    · exact ptg_4 _ _ _ _ c w hf fun W => by have h := pafter_c 4 n a [] c W ha; rw [afV_eq n a c h62] at h; exact h
    · exact ptg_5 _ _ _ _ c w hf fun W => by have h := pbefore_c 5 n a [] c W ha; rw [bvV_eq n a c h62] at h; exact h
    · exact ptg_6 _ _ _ _ c w hf fun W => by have h := punq_c 6 n a [] c W; rw [uqV_eq n a c h62] at h; exact h
end Go.Proofs.Yteclclidibmajaa

namespace Go.Proofs.Yteclclidibmajaa
open Go.RowKit Go.BigFrame
set_option linter.unusedVariables false
set_option linter.unusedSimpArgs false
set_option maxRecDepth 100000

set_option maxRecDepth 100000 in
set_option maxHeartbeats 3200000 in
theorem pstp_0 (N A' P : ByteArray) (t : HS) (c : UInt8) (w : World) 
    (hc : ∀ W, Calls Try.prog 27 #[.agg #[.int .i64 0, .string N, .string A', .string P], .int .u8 c.toNat] W (SvV (.agg #[.int .i64 (t.c : Nat), .string (ofL t.n), .string (ofL t.a), .string (ofL t.p)]) W)) :
    Calls Try.prog 20 #[stV 0 N A' P, .int .u8 c.toNat] w (SvV t.val w) := by
  unfold stV
  have HC := Lib.hid hc
  clear hc
  have HB2 := Lib.hid ((Bel.alloc w (.cells #[.int .i64 0, .string N, .string A', .string P] 34)).trans (Bel.alloc (w.alloc (.cells #[.int .i64 0, .string N, .string A', .string P] 34)) (.cells #[.int .i64 0, .string ⟨#[]⟩, .string ⟨#[]⟩, .string ⟨#[]⟩] 34)))
  have HR2 := Lib.hid (blk_at1h w (.cells #[.int .i64 0, .string N, .string A', .string P] 34) 34 [.int .i64 0, .string ⟨#[]⟩, .string ⟨#[]⟩, .string ⟨#[]⟩])
  go_enter Try.func20, Try.ntmps20
  go_wp2_with (go_at_call 27; ((with_reducible refine (HC.out _).mono ?_); rintro e w2 ⟨rfl, hb⟩; have HB := Lib.hid (HB2.out.trans hb); have HR := Lib.hid (HR2.out.belh hb); clear hb; obtain ⟨r0, r1, r2, r3⟩ := cells4 HR.out; obtain ⟨v0, v1, v2, v3⟩ := frees4 HR.out))
  all_goals first
    | ((with_reducible apply pst_set (k := 4) (g := w.heap.size + 1)); (case hf => rfl); (case hp => rfl); (case hB => exact HR.out); (case hb => exact HB.out); (case hg => omega); rfl)
    | trace_state
set_option maxRecDepth 100000 in
set_option maxHeartbeats 3200000 in
theorem pstp_1 (N A' P : ByteArray) (t : HS) (c : UInt8) (w : World) 
    (hc : ∀ W, Calls Try.prog 30 #[.agg #[.int .i64 1, .string N, .string A', .string P], .int .u8 c.toNat] W (SvV (.agg #[.int .i64 (t.c : Nat), .string (ofL t.n), .string (ofL t.a), .string (ofL t.p)]) W)) :
    Calls Try.prog 20 #[stV 1 N A' P, .int .u8 c.toNat] w (SvV t.val w) := by
  unfold stV
  have HC := Lib.hid hc
  clear hc
  have HB2 := Lib.hid ((Bel.alloc w (.cells #[.int .i64 1, .string N, .string A', .string P] 34)).trans (Bel.alloc (w.alloc (.cells #[.int .i64 1, .string N, .string A', .string P] 34)) (.cells #[.int .i64 0, .string ⟨#[]⟩, .string ⟨#[]⟩, .string ⟨#[]⟩] 34)))
  have HR2 := Lib.hid (blk_at1h w (.cells #[.int .i64 1, .string N, .string A', .string P] 34) 34 [.int .i64 0, .string ⟨#[]⟩, .string ⟨#[]⟩, .string ⟨#[]⟩])
  go_enter Try.func20, Try.ntmps20
  go_wp2_with (go_at_call 30; ((with_reducible refine (HC.out _).mono ?_); rintro e w2 ⟨rfl, hb⟩; have HB := Lib.hid (HB2.out.trans hb); have HR := Lib.hid (HR2.out.belh hb); clear hb; obtain ⟨r0, r1, r2, r3⟩ := cells4 HR.out; obtain ⟨v0, v1, v2, v3⟩ := frees4 HR.out))
  all_goals first
    | ((with_reducible apply pst_set (k := 4) (g := w.heap.size + 1)); (case hf => rfl); (case hp => rfl); (case hB => exact HR.out); (case hb => exact HB.out); (case hg => omega); rfl)
    | trace_state
set_option maxRecDepth 100000 in
set_option maxHeartbeats 3200000 in
theorem pstp_2 (N A' P : ByteArray) (t : HS) (c : UInt8) (w : World) 
    (hc : ∀ W, Calls Try.prog 30 #[.agg #[.int .i64 2, .string N, .string A', .string P], .int .u8 c.toNat] W (SvV (.agg #[.int .i64 (t.c : Nat), .string (ofL t.n), .string (ofL t.a), .string (ofL t.p)]) W)) :
    Calls Try.prog 20 #[stV 2 N A' P, .int .u8 c.toNat] w (SvV t.val w) := by
  unfold stV
  have HC := Lib.hid hc
  clear hc
  have HB2 := Lib.hid ((Bel.alloc w (.cells #[.int .i64 2, .string N, .string A', .string P] 34)).trans (Bel.alloc (w.alloc (.cells #[.int .i64 2, .string N, .string A', .string P] 34)) (.cells #[.int .i64 0, .string ⟨#[]⟩, .string ⟨#[]⟩, .string ⟨#[]⟩] 34)))
  have HR2 := Lib.hid (blk_at1h w (.cells #[.int .i64 2, .string N, .string A', .string P] 34) 34 [.int .i64 0, .string ⟨#[]⟩, .string ⟨#[]⟩, .string ⟨#[]⟩])
  go_enter Try.func20, Try.ntmps20
  go_wp2_with (go_at_call 30; ((with_reducible refine (HC.out _).mono ?_); rintro e w2 ⟨rfl, hb⟩; have HB := Lib.hid (HB2.out.trans hb); have HR := Lib.hid (HR2.out.belh hb); clear hb; obtain ⟨r0, r1, r2, r3⟩ := cells4 HR.out; obtain ⟨v0, v1, v2, v3⟩ := frees4 HR.out))
  all_goals first
    | ((with_reducible apply pst_set (k := 4) (g := w.heap.size + 1)); (case hf => rfl); (case hp => rfl); (case hB => exact HR.out); (case hb => exact HB.out); (case hg => omega); rfl)
    | trace_state
set_option maxRecDepth 100000 in
set_option maxHeartbeats 3200000 in
theorem pstp_3 (N A' P : ByteArray) (t : HS) (c : UInt8) (w : World) 
    (hc : ∀ W, Calls Try.prog 30 #[.agg #[.int .i64 3, .string N, .string A', .string P], .int .u8 c.toNat] W (SvV (.agg #[.int .i64 (t.c : Nat), .string (ofL t.n), .string (ofL t.a), .string (ofL t.p)]) W)) :
    Calls Try.prog 20 #[stV 3 N A' P, .int .u8 c.toNat] w (SvV t.val w) := by
  unfold stV
  have HC := Lib.hid hc
  clear hc
  have HB2 := Lib.hid ((Bel.alloc w (.cells #[.int .i64 3, .string N, .string A', .string P] 34)).trans (Bel.alloc (w.alloc (.cells #[.int .i64 3, .string N, .string A', .string P] 34)) (.cells #[.int .i64 0, .string ⟨#[]⟩, .string ⟨#[]⟩, .string ⟨#[]⟩] 34)))
  have HR2 := Lib.hid (blk_at1h w (.cells #[.int .i64 3, .string N, .string A', .string P] 34) 34 [.int .i64 0, .string ⟨#[]⟩, .string ⟨#[]⟩, .string ⟨#[]⟩])
  go_enter Try.func20, Try.ntmps20
  go_wp2_with (go_at_call 30; ((with_reducible refine (HC.out _).mono ?_); rintro e w2 ⟨rfl, hb⟩; have HB := Lib.hid (HB2.out.trans hb); have HR := Lib.hid (HR2.out.belh hb); clear hb; obtain ⟨r0, r1, r2, r3⟩ := cells4 HR.out; obtain ⟨v0, v1, v2, v3⟩ := frees4 HR.out))
  all_goals first
    | ((with_reducible apply pst_set (k := 4) (g := w.heap.size + 1)); (case hf => rfl); (case hp => rfl); (case hB => exact HR.out); (case hb => exact HB.out); (case hg => omega); rfl)
    | trace_state
set_option maxRecDepth 100000 in
set_option maxHeartbeats 3200000 in
theorem pstp_4 (N A' P : ByteArray) (t : HS) (c : UInt8) (w : World) 
    (hc : ∀ W, Calls Try.prog 30 #[.agg #[.int .i64 4, .string N, .string A', .string P], .int .u8 c.toNat] W (SvV (.agg #[.int .i64 (t.c : Nat), .string (ofL t.n), .string (ofL t.a), .string (ofL t.p)]) W)) :
    Calls Try.prog 20 #[stV 4 N A' P, .int .u8 c.toNat] w (SvV t.val w) := by
  unfold stV
  have HC := Lib.hid hc
  clear hc
  have HB2 := Lib.hid ((Bel.alloc w (.cells #[.int .i64 4, .string N, .string A', .string P] 34)).trans (Bel.alloc (w.alloc (.cells #[.int .i64 4, .string N, .string A', .string P] 34)) (.cells #[.int .i64 0, .string ⟨#[]⟩, .string ⟨#[]⟩, .string ⟨#[]⟩] 34)))
  have HR2 := Lib.hid (blk_at1h w (.cells #[.int .i64 4, .string N, .string A', .string P] 34) 34 [.int .i64 0, .string ⟨#[]⟩, .string ⟨#[]⟩, .string ⟨#[]⟩])
  go_enter Try.func20, Try.ntmps20
  go_wp2_with (go_at_call 30; ((with_reducible refine (HC.out _).mono ?_); rintro e w2 ⟨rfl, hb⟩; have HB := Lib.hid (HB2.out.trans hb); have HR := Lib.hid (HR2.out.belh hb); clear hb; obtain ⟨r0, r1, r2, r3⟩ := cells4 HR.out; obtain ⟨v0, v1, v2, v3⟩ := frees4 HR.out))
  all_goals first
    | ((with_reducible apply pst_set (k := 4) (g := w.heap.size + 1)); (case hf => rfl); (case hp => rfl); (case hB => exact HR.out); (case hb => exact HB.out); (case hg => omega); rfl)
    | trace_state
set_option maxRecDepth 100000 in
set_option maxHeartbeats 3200000 in
theorem pstp_5 (N A' P : ByteArray) (t : HS) (c : UInt8) (w : World) 
    (hc : ∀ W, Calls Try.prog 30 #[.agg #[.int .i64 5, .string N, .string A', .string P], .int .u8 c.toNat] W (SvV (.agg #[.int .i64 (t.c : Nat), .string (ofL t.n), .string (ofL t.a), .string (ofL t.p)]) W)) :
    Calls Try.prog 20 #[stV 5 N A' P, .int .u8 c.toNat] w (SvV t.val w) := by
  unfold stV
  have HC := Lib.hid hc
  clear hc
  have HB2 := Lib.hid ((Bel.alloc w (.cells #[.int .i64 5, .string N, .string A', .string P] 34)).trans (Bel.alloc (w.alloc (.cells #[.int .i64 5, .string N, .string A', .string P] 34)) (.cells #[.int .i64 0, .string ⟨#[]⟩, .string ⟨#[]⟩, .string ⟨#[]⟩] 34)))
  have HR2 := Lib.hid (blk_at1h w (.cells #[.int .i64 5, .string N, .string A', .string P] 34) 34 [.int .i64 0, .string ⟨#[]⟩, .string ⟨#[]⟩, .string ⟨#[]⟩])
  go_enter Try.func20, Try.ntmps20
  go_wp2_with (go_at_call 30; ((with_reducible refine (HC.out _).mono ?_); rintro e w2 ⟨rfl, hb⟩; have HB := Lib.hid (HB2.out.trans hb); have HR := Lib.hid (HR2.out.belh hb); clear hb; obtain ⟨r0, r1, r2, r3⟩ := cells4 HR.out; obtain ⟨v0, v1, v2, v3⟩ := frees4 HR.out))
  all_goals first
    | ((with_reducible apply pst_set (k := 4) (g := w.heap.size + 1)); (case hf => rfl); (case hp => rfl); (case hB => exact HR.out); (case hb => exact HB.out); (case hg => omega); rfl)
    | trace_state
set_option maxRecDepth 100000 in
set_option maxHeartbeats 3200000 in
theorem pstp_6 (N A' P : ByteArray) (t : HS) (c : UInt8) (w : World) 
    (hc : ∀ W, Calls Try.prog 30 #[.agg #[.int .i64 6, .string N, .string A', .string P], .int .u8 c.toNat] W (SvV (.agg #[.int .i64 (t.c : Nat), .string (ofL t.n), .string (ofL t.a), .string (ofL t.p)]) W)) :
    Calls Try.prog 20 #[stV 6 N A' P, .int .u8 c.toNat] w (SvV t.val w) := by
  unfold stV
  have HC := Lib.hid hc
  clear hc
  have HB2 := Lib.hid ((Bel.alloc w (.cells #[.int .i64 6, .string N, .string A', .string P] 34)).trans (Bel.alloc (w.alloc (.cells #[.int .i64 6, .string N, .string A', .string P] 34)) (.cells #[.int .i64 0, .string ⟨#[]⟩, .string ⟨#[]⟩, .string ⟨#[]⟩] 34)))
  have HR2 := Lib.hid (blk_at1h w (.cells #[.int .i64 6, .string N, .string A', .string P] 34) 34 [.int .i64 0, .string ⟨#[]⟩, .string ⟨#[]⟩, .string ⟨#[]⟩])
  go_enter Try.func20, Try.ntmps20
  go_wp2_with (go_at_call 30; ((with_reducible refine (HC.out _).mono ?_); rintro e w2 ⟨rfl, hb⟩; have HB := Lib.hid (HB2.out.trans hb); have HR := Lib.hid (HR2.out.belh hb); clear hb; obtain ⟨r0, r1, r2, r3⟩ := cells4 HR.out; obtain ⟨v0, v1, v2, v3⟩ := frees4 HR.out))
  all_goals first
    | ((with_reducible apply pst_set (k := 4) (g := w.heap.size + 1)); (case hf => rfl); (case hp => rfl); (case hB => exact HR.out); (case hb => exact HB.out); (case hg => omega); rfl)
    | trace_state
set_option maxRecDepth 100000 in
set_option maxHeartbeats 3200000 in
theorem pstp_13 (N A' P : ByteArray) (t : HS) (c : UInt8) (w : World) 
    (hc : ∀ W, Calls Try.prog 29 #[.agg #[.int .i64 13, .string N, .string A', .string P], .int .u8 c.toNat] W (SvV (.agg #[.int .i64 (t.c : Nat), .string (ofL t.n), .string (ofL t.a), .string (ofL t.p)]) W)) :
    Calls Try.prog 20 #[stV 13 N A' P, .int .u8 c.toNat] w (SvV t.val w) := by
  unfold stV
  have HC := Lib.hid hc
  clear hc
  have HB2 := Lib.hid ((Bel.alloc w (.cells #[.int .i64 13, .string N, .string A', .string P] 34)).trans (Bel.alloc (w.alloc (.cells #[.int .i64 13, .string N, .string A', .string P] 34)) (.cells #[.int .i64 0, .string ⟨#[]⟩, .string ⟨#[]⟩, .string ⟨#[]⟩] 34)))
  have HR2 := Lib.hid (blk_at1h w (.cells #[.int .i64 13, .string N, .string A', .string P] 34) 34 [.int .i64 0, .string ⟨#[]⟩, .string ⟨#[]⟩, .string ⟨#[]⟩])
  go_enter Try.func20, Try.ntmps20
  go_wp2_with (go_at_call 29; ((with_reducible refine (HC.out _).mono ?_); rintro e w2 ⟨rfl, hb⟩; have HB := Lib.hid (HB2.out.trans hb); have HR := Lib.hid (HR2.out.belh hb); clear hb; obtain ⟨r0, r1, r2, r3⟩ := cells4 HR.out; obtain ⟨v0, v1, v2, v3⟩ := frees4 HR.out))
  all_goals first
    | ((with_reducible apply pst_set (k := 4) (g := w.heap.size + 1)); (case hf => rfl); (case hp => rfl); (case hB => exact HR.out); (case hb => exact HB.out); (case hg => omega); rfl)
    | trace_state
set_option maxRecDepth 100000 in
set_option maxHeartbeats 3200000 in
theorem pstp_14 (N A' P : ByteArray) (t : HS) (c : UInt8) (w : World) 
    (hc : ∀ W, Calls Try.prog 28 #[.agg #[.int .i64 14, .string N, .string A', .string P], .int .u8 c.toNat, .int .u8 62, .agg #[.int .i64 0, .string ⟨#[]⟩, .string ⟨#[]⟩, .string ⟨#[]⟩]] W (SvV (.agg #[.int .i64 (t.c : Nat), .string (ofL t.n), .string (ofL t.a), .string (ofL t.p)]) W)) :
    Calls Try.prog 20 #[stV 14 N A' P, .int .u8 c.toNat] w (SvV t.val w) := by
  unfold stV
  have HC := Lib.hid hc
  clear hc
  have HB2 := Lib.hid ((Bel.alloc w (.cells #[.int .i64 14, .string N, .string A', .string P] 34)).trans (Bel.alloc (w.alloc (.cells #[.int .i64 14, .string N, .string A', .string P] 34)) (.cells #[.int .i64 0, .string ⟨#[]⟩, .string ⟨#[]⟩, .string ⟨#[]⟩] 34)))
  have HR2 := Lib.hid (blk_at1h w (.cells #[.int .i64 14, .string N, .string A', .string P] 34) 34 [.int .i64 0, .string ⟨#[]⟩, .string ⟨#[]⟩, .string ⟨#[]⟩])
  go_enter Try.func20, Try.ntmps20
  go_wp2_with (go_at_call 28; ((with_reducible refine (HC.out _).mono ?_); rintro e w2 ⟨rfl, hb⟩; have HB := Lib.hid (HB2.out.trans hb); have HR := Lib.hid (HR2.out.belh hb); clear hb; obtain ⟨r0, r1, r2, r3⟩ := cells4 HR.out; obtain ⟨v0, v1, v2, v3⟩ := frees4 HR.out))
  all_goals first
    | ((with_reducible apply pst_set (k := 4) (g := w.heap.size + 1)); (case hf => rfl); (case hp => rfl); (case hB => exact HR.out); (case hb => exact HB.out); (case hg => omega); rfl)
    | trace_state
set_option maxRecDepth 100000 in
set_option maxHeartbeats 3200000 in
theorem pstp_15 (N A' P : ByteArray) (t : HS) (c : UInt8) (w : World) 
    (hc : ∀ W, Calls Try.prog 28 #[.agg #[.int .i64 15, .string N, .string A', .string P], .int .u8 c.toNat, .int .u8 62, .agg #[.int .i64 0, .string ⟨#[]⟩, .string ⟨#[]⟩, .string ⟨#[]⟩]] W (SvV (.agg #[.int .i64 (t.c : Nat), .string (ofL t.n), .string (ofL t.a), .string (ofL t.p)]) W)) :
    Calls Try.prog 20 #[stV 15 N A' P, .int .u8 c.toNat] w (SvV t.val w) := by
  unfold stV
  have HC := Lib.hid hc
  clear hc
  have HB2 := Lib.hid ((Bel.alloc w (.cells #[.int .i64 15, .string N, .string A', .string P] 34)).trans (Bel.alloc (w.alloc (.cells #[.int .i64 15, .string N, .string A', .string P] 34)) (.cells #[.int .i64 0, .string ⟨#[]⟩, .string ⟨#[]⟩, .string ⟨#[]⟩] 34)))
  have HR2 := Lib.hid (blk_at1h w (.cells #[.int .i64 15, .string N, .string A', .string P] 34) 34 [.int .i64 0, .string ⟨#[]⟩, .string ⟨#[]⟩, .string ⟨#[]⟩])
  go_enter Try.func20, Try.ntmps20
  go_wp2_with (go_at_call 28; ((with_reducible refine (HC.out _).mono ?_); rintro e w2 ⟨rfl, hb⟩; have HB := Lib.hid (HB2.out.trans hb); have HR := Lib.hid (HR2.out.belh hb); clear hb; obtain ⟨r0, r1, r2, r3⟩ := cells4 HR.out; obtain ⟨v0, v1, v2, v3⟩ := frees4 HR.out))
  all_goals first
    | ((with_reducible apply pst_set (k := 4) (g := w.heap.size + 1)); (case hf => rfl); (case hp => rfl); (case hB => exact HR.out); (case hb => exact HB.out); (case hg => omega); rfl)
    | trace_state
set_option maxRecDepth 100000 in
set_option maxHeartbeats 3200000 in
theorem pstp_16 (N A' P : ByteArray) (t : HS) (c : UInt8) (w : World) 
    (hc : ∀ W, Calls Try.prog 32 #[.agg #[.int .i64 16, .string N, .string A', .string P], .int .u8 c.toNat] W (SvV (.agg #[.int .i64 (t.c : Nat), .string (ofL t.n), .string (ofL t.a), .string (ofL t.p)]) W)) :
    Calls Try.prog 20 #[stV 16 N A' P, .int .u8 c.toNat] w (SvV t.val w) := by
  unfold stV
  have HC := Lib.hid hc
  clear hc
  have HB2 := Lib.hid ((Bel.alloc w (.cells #[.int .i64 16, .string N, .string A', .string P] 34)).trans (Bel.alloc (w.alloc (.cells #[.int .i64 16, .string N, .string A', .string P] 34)) (.cells #[.int .i64 0, .string ⟨#[]⟩, .string ⟨#[]⟩, .string ⟨#[]⟩] 34)))
  have HR2 := Lib.hid (blk_at1h w (.cells #[.int .i64 16, .string N, .string A', .string P] 34) 34 [.int .i64 0, .string ⟨#[]⟩, .string ⟨#[]⟩, .string ⟨#[]⟩])
  go_enter Try.func20, Try.ntmps20
  go_wp2_with (go_at_call 32; ((with_reducible refine (HC.out _).mono ?_); rintro e w2 ⟨rfl, hb⟩; have HB := Lib.hid (HB2.out.trans hb); have HR := Lib.hid (HR2.out.belh hb); clear hb; obtain ⟨r0, r1, r2, r3⟩ := cells4 HR.out; obtain ⟨v0, v1, v2, v3⟩ := frees4 HR.out))
  all_goals first
    | ((with_reducible apply pst_set (k := 4) (g := w.heap.size + 1)); (case hf => rfl); (case hp => rfl); (case hB => exact HR.out); (case hb => exact HB.out); (case hg => omega); rfl)
    | trace_state
set_option maxRecDepth 100000 in
set_option maxHeartbeats 3200000 in
theorem pstp_17 (N A' P : ByteArray) (t : HS) (c : UInt8) (w : World) 
    (hc : ∀ W, Calls Try.prog 32 #[.agg #[.int .i64 17, .string N, .string A', .string P], .int .u8 c.toNat] W (SvV (.agg #[.int .i64 (t.c : Nat), .string (ofL t.n), .string (ofL t.a), .string (ofL t.p)]) W)) :
    Calls Try.prog 20 #[stV 17 N A' P, .int .u8 c.toNat] w (SvV t.val w) := by
  unfold stV
  have HC := Lib.hid hc
  clear hc
  have HB2 := Lib.hid ((Bel.alloc w (.cells #[.int .i64 17, .string N, .string A', .string P] 34)).trans (Bel.alloc (w.alloc (.cells #[.int .i64 17, .string N, .string A', .string P] 34)) (.cells #[.int .i64 0, .string ⟨#[]⟩, .string ⟨#[]⟩, .string ⟨#[]⟩] 34)))
  have HR2 := Lib.hid (blk_at1h w (.cells #[.int .i64 17, .string N, .string A', .string P] 34) 34 [.int .i64 0, .string ⟨#[]⟩, .string ⟨#[]⟩, .string ⟨#[]⟩])
  go_enter Try.func20, Try.ntmps20
  go_wp2_with (go_at_call 32; ((with_reducible refine (HC.out _).mono ?_); rintro e w2 ⟨rfl, hb⟩; have HB := Lib.hid (HB2.out.trans hb); have HR := Lib.hid (HR2.out.belh hb); clear hb; obtain ⟨r0, r1, r2, r3⟩ := cells4 HR.out; obtain ⟨v0, v1, v2, v3⟩ := frees4 HR.out))
  all_goals first
    | ((with_reducible apply pst_set (k := 4) (g := w.heap.size + 1)); (case hf => rfl); (case hp => rfl); (case hB => exact HR.out); (case hb => exact HB.out); (case hg => omega); rfl)
    | trace_state
set_option maxRecDepth 100000 in
set_option maxHeartbeats 3200000 in
theorem pstp_18 (N A' P : ByteArray) (t : HS) (c : UInt8) (w : World) 
    (hc : ∀ W, Calls Try.prog 32 #[.agg #[.int .i64 18, .string N, .string A', .string P], .int .u8 c.toNat] W (SvV (.agg #[.int .i64 (t.c : Nat), .string (ofL t.n), .string (ofL t.a), .string (ofL t.p)]) W)) :
    Calls Try.prog 20 #[stV 18 N A' P, .int .u8 c.toNat] w (SvV t.val w) := by
  unfold stV
  have HC := Lib.hid hc
  clear hc
  have HB2 := Lib.hid ((Bel.alloc w (.cells #[.int .i64 18, .string N, .string A', .string P] 34)).trans (Bel.alloc (w.alloc (.cells #[.int .i64 18, .string N, .string A', .string P] 34)) (.cells #[.int .i64 0, .string ⟨#[]⟩, .string ⟨#[]⟩, .string ⟨#[]⟩] 34)))
  have HR2 := Lib.hid (blk_at1h w (.cells #[.int .i64 18, .string N, .string A', .string P] 34) 34 [.int .i64 0, .string ⟨#[]⟩, .string ⟨#[]⟩, .string ⟨#[]⟩])
  go_enter Try.func20, Try.ntmps20
  go_wp2_with (go_at_call 32; ((with_reducible refine (HC.out _).mono ?_); rintro e w2 ⟨rfl, hb⟩; have HB := Lib.hid (HB2.out.trans hb); have HR := Lib.hid (HR2.out.belh hb); clear hb; obtain ⟨r0, r1, r2, r3⟩ := cells4 HR.out; obtain ⟨v0, v1, v2, v3⟩ := frees4 HR.out))
  all_goals first
    | ((with_reducible apply pst_set (k := 4) (g := w.heap.size + 1)); (case hf => rfl); (case hp => rfl); (case hB => exact HR.out); (case hb => exact HB.out); (case hg => omega); rfl)
    | trace_state
set_option maxRecDepth 100000 in
set_option maxHeartbeats 3200000 in
theorem pstp_19 (N A' P : ByteArray) (t : HS) (c : UInt8) (w : World) 
    (hc : ∀ W, Calls Try.prog 32 #[.agg #[.int .i64 19, .string N, .string A', .string P], .int .u8 c.toNat] W (SvV (.agg #[.int .i64 (t.c : Nat), .string (ofL t.n), .string (ofL t.a), .string (ofL t.p)]) W)) :
    Calls Try.prog 20 #[stV 19 N A' P, .int .u8 c.toNat] w (SvV t.val w) := by
  unfold stV
  have HC := Lib.hid hc
  clear hc
  have HB2 := Lib.hid ((Bel.alloc w (.cells #[.int .i64 19, .string N, .string A', .string P] 34)).trans (Bel.alloc (w.alloc (.cells #[.int .i64 19, .string N, .string A', .string P] 34)) (.cells #[.int .i64 0, .string ⟨#[]⟩, .string ⟨#[]⟩, .string ⟨#[]⟩] 34)))
  have HR2 := Lib.hid (blk_at1h w (.cells #[.int .i64 19, .string N, .string A', .string P] 34) 34 [.int .i64 0, .string ⟨#[]⟩, .string ⟨#[]⟩, .string ⟨#[]⟩])
  go_enter Try.func20, Try.ntmps20
  go_wp2_with (go_at_call 32; ((with_reducible refine (HC.out _).mono ?_); rintro e w2 ⟨rfl, hb⟩; have HB := Lib.hid (HB2.out.trans hb); have HR := Lib.hid (HR2.out.belh hb); clear hb; obtain ⟨r0, r1, r2, r3⟩ := cells4 HR.out; obtain ⟨v0, v1, v2, v3⟩ := frees4 HR.out))
  all_goals first
    | ((with_reducible apply pst_set (k := 4) (g := w.heap.size + 1)); (case hf => rfl); (case hp => rfl); (case hB => exact HR.out); (case hb => exact HB.out); (case hg => omega); rfl)
    | trace_state
set_option maxRecDepth 100000 in
set_option maxHeartbeats 3200000 in
theorem pstp_20 (N A' P : ByteArray) (t : HS) (c : UInt8) (w : World) 
    (hc : ∀ W, Calls Try.prog 32 #[.agg #[.int .i64 20, .string N, .string A', .string P], .int .u8 c.toNat] W (SvV (.agg #[.int .i64 (t.c : Nat), .string (ofL t.n), .string (ofL t.a), .string (ofL t.p)]) W)) :
    Calls Try.prog 20 #[stV 20 N A' P, .int .u8 c.toNat] w (SvV t.val w) := by
  unfold stV
  have HC := Lib.hid hc
  clear hc
  have HB2 := Lib.hid ((Bel.alloc w (.cells #[.int .i64 20, .string N, .string A', .string P] 34)).trans (Bel.alloc (w.alloc (.cells #[.int .i64 20, .string N, .string A', .string P] 34)) (.cells #[.int .i64 0, .string ⟨#[]⟩, .string ⟨#[]⟩, .string ⟨#[]⟩] 34)))
  have HR2 := Lib.hid (blk_at1h w (.cells #[.int .i64 20, .string N, .string A', .string P] 34) 34 [.int .i64 0, .string ⟨#[]⟩, .string ⟨#[]⟩, .string ⟨#[]⟩])
  go_enter Try.func20, Try.ntmps20
  go_wp2_with (go_at_call 32; ((with_reducible refine (HC.out _).mono ?_); rintro e w2 ⟨rfl, hb⟩; have HB := Lib.hid (HB2.out.trans hb); have HR := Lib.hid (HR2.out.belh hb); clear hb; obtain ⟨r0, r1, r2, r3⟩ := cells4 HR.out; obtain ⟨v0, v1, v2, v3⟩ := frees4 HR.out))
  all_goals first
    | ((with_reducible apply pst_set (k := 4) (g := w.heap.size + 1)); (case hf => rfl); (case hp => rfl); (case hB => exact HR.out); (case hb => exact HB.out); (case hg => omega); rfl)
    | trace_state
set_option maxRecDepth 100000 in
set_option maxHeartbeats 3200000 in
theorem pstp_21 (N A' P : ByteArray) (t : HS) (c : UInt8) (w : World) 
    (hc : ∀ W, Calls Try.prog 32 #[.agg #[.int .i64 21, .string N, .string A', .string P], .int .u8 c.toNat] W (SvV (.agg #[.int .i64 (t.c : Nat), .string (ofL t.n), .string (ofL t.a), .string (ofL t.p)]) W)) :
    Calls Try.prog 20 #[stV 21 N A' P, .int .u8 c.toNat] w (SvV t.val w) := by
  unfold stV
  have HC := Lib.hid hc
  clear hc
  have HB2 := Lib.hid ((Bel.alloc w (.cells #[.int .i64 21, .string N, .string A', .string P] 34)).trans (Bel.alloc (w.alloc (.cells #[.int .i64 21, .string N, .string A', .string P] 34)) (.cells #[.int .i64 0, .string ⟨#[]⟩, .string ⟨#[]⟩, .string ⟨#[]⟩] 34)))
  have HR2 := Lib.hid (blk_at1h w (.cells #[.int .i64 21, .string N, .string A', .string P] 34) 34 [.int .i64 0, .string ⟨#[]⟩, .string ⟨#[]⟩, .string ⟨#[]⟩])
  go_enter Try.func20, Try.ntmps20
  go_wp2_with (go_at_call 32; ((with_reducible refine (HC.out _).mono ?_); rintro e w2 ⟨rfl, hb⟩; have HB := Lib.hid (HB2.out.trans hb); have HR := Lib.hid (HR2.out.belh hb); clear hb; obtain ⟨r0, r1, r2, r3⟩ := cells4 HR.out; obtain ⟨v0, v1, v2, v3⟩ := frees4 HR.out))
  all_goals first
    | ((with_reducible apply pst_set (k := 4) (g := w.heap.size + 1)); (case hf => rfl); (case hp => rfl); (case hB => exact HR.out); (case hb => exact HB.out); (case hg => omega); rfl)
    | trace_state
set_option maxRecDepth 100000 in
set_option maxHeartbeats 3200000 in
theorem pstp_7 (N A' P : ByteArray) (t : HS) (c : UInt8) (w : World)
    (hc : ∀ W, Calls Try.prog 28 #[.agg #[.int .i64 7, .string N, .string A', .string P], .int .u8 c.toNat, .int .u8 34, .agg #[.int .i64 1, .string N, .string ⟨#[]⟩, .string ⟨#[]⟩]] W (SvV (.agg #[.int .i64 (t.c : Nat), .string (ofL t.n), .string (ofL t.a), .string (ofL t.p)]) W)) :
    Calls Try.prog 20 #[stV 7 N A' P, .int .u8 c.toNat] w (SvV t.val w) := by
  unfold stV
  have HC := Lib.hid hc
  clear hc
  have HTG : Hid (∀ W, Calls Try.prog 31 #[.agg #[.int .i64 7, .string N, .string A', .string P]] W (SvV (.agg #[.int .i64 1, .string N, .string ⟨#[]⟩, .string ⟨#[]⟩]) W)) := Lib.hid (fun W => ptag_c 7 N A' P W)
  have HB2 := Lib.hid ((Bel.alloc w (.cells #[.int .i64 7, .string N, .string A', .string P] 34)).trans (Bel.alloc (w.alloc (.cells #[.int .i64 7, .string N, .string A', .string P] 34)) (.cells #[.int .i64 0, .string ⟨#[]⟩, .string ⟨#[]⟩, .string ⟨#[]⟩] 34)))
  have HR2 := Lib.hid (blk_at1h w (.cells #[.int .i64 7, .string N, .string A', .string P] 34) 34 [.int .i64 0, .string ⟨#[]⟩, .string ⟨#[]⟩, .string ⟨#[]⟩])
  have HX2 := Lib.hid ((Blk.new w 34 [.int .i64 7, .string N, .string A', .string P]).alloc (.cells #[.int .i64 0, .string ⟨#[]⟩, .string ⟨#[]⟩, .string ⟨#[]⟩] 34))
  go_enter Try.func20, Try.ntmps20
  go_wp2_with fail
  refine region_begin (T := [w.heap.size + 1]) (by kernel_rfl) ?_
  have HBd := Lib.hid (HB2.out.trans (Bel.drew _))
  have HRd := Lib.hid HR2.out.drew
  have HXd := Lib.hid HX2.out.drew
  generalize ((w.alloc (.cells #[.int .i64 7, .string N, .string A', .string P] 34)).alloc (.cells #[.int .i64 0, .string ⟨#[]⟩, .string ⟨#[]⟩, .string ⟨#[]⟩] 34)).drew = Wd at HBd HRd HXd ⊢
  have p0 : ∀ X : Later [w.heap.size + 1] Wd, X.w.cell? ⟨w.heap.size, 0, none⟩ = some (.int .i64 7) := fun X => (HXd.out.only X.h (by simp)).cell 0
  have p1 : ∀ X : Later [w.heap.size + 1] Wd, X.w.cell? ⟨w.heap.size, 1, none⟩ = some (.string N) := fun X => (HXd.out.only X.h (by simp)).cell 1
  have p2 : ∀ X : Later [w.heap.size + 1] Wd, X.w.cell? ⟨w.heap.size, 2, none⟩ = some (.string A') := fun X => (HXd.out.only X.h (by simp)).cell 2
  have p3 : ∀ X : Later [w.heap.size + 1] Wd, X.w.cell? ⟨w.heap.size, 3, none⟩ = some (.string P) := fun X => (HXd.out.only X.h (by simp)).cell 3
  refine region_seg [true, true, true] 3 (by kernel_rfl) (by kernel_rfl) (by kernel_rfl) rfl (fun _ _ d _ _ h => by cases d <;> exact h) ?_
  repeat (first | with_reducible refine wpMask_pass ?_ | (refine wpMask_want (by rfl) (fun K hK => ?_); go_big_quiet_op; refine hK _ ?_; clear hK K))
  with_reducible refine wpMask_nil ?_
  clear p0 p1 p2 p3
  refine region_call 3 (by kernel_rfl) rfl (by rfl) (by go_simp; exact ⟨rfl, rfl⟩) ?_
  (with_reducible refine (HTG.out _).mono ?_); rintro e w2 ⟨rfl, hb⟩; refine ⟨_, rfl, (Only.refl [w.heap.size + 1] _).join (bel_only hb) (by simp), ?_⟩
  replace HBd := Lib.hid (HBd.out.trans hb)
  replace HRd := Lib.hid (HRd.out.belh hb)
  clear hb
  simp only [List.getElem_toArray, List.getElem_cons_zero, List.getElem_cons_succ, Act.put, List.setIfInBounds_toArray, List.set_cons_zero, List.set_cons_succ]
  refine region_call 4 (by kernel_rfl) rfl (by rfl) (by go_simp; exact ⟨rfl, rfl⟩) ?_
  (with_reducible refine (HC.out _).mono ?_); rintro e w3 ⟨rfl, hb⟩; refine ⟨_, rfl, (Only.refl [w.heap.size + 1] _).join (bel_only hb) (by simp), ?_⟩
  replace HBd := Lib.hid (HBd.out.trans hb)
  replace HRd := Lib.hid (HRd.out.belh hb)
  clear hb
  simp only [List.getElem_toArray, List.getElem_cons_zero, List.getElem_cons_succ, Act.put, List.setIfInBounds_toArray, List.set_cons_zero, List.set_cons_succ]
  obtain ⟨r0, r1, r2, r3⟩ := cells4 HRd.out
  obtain ⟨v0, v1, v2, v3⟩ := frees4 HRd.out
  refine region_store 5 (w1 := ((((w3.setCell ⟨w.heap.size + 1, 0, none⟩ (.int .i64 (t.c : Nat))).setCell ⟨w.heap.size + 1, 1, none⟩ (.string (ofL t.n))).setCell ⟨w.heap.size + 1, 2, none⟩ (.string (ofL t.a))).setCell ⟨w.heap.size + 1, 3, none⟩ (.string (ofL t.p)))) (by kernel_rfl) rfl (by rfl) (by go_simp) (((((Only.refl [w.heap.size + 1] _).setCell (.inl (by simp)) _).setCell (.inl (by simp)) _).setCell (.inl (by simp)) _).setCell (.inl (by simp)) _) ?_
  simp only [List.getElem_toArray, List.getElem_cons_zero, List.getElem_cons_succ, Act.put, List.setIfInBounds_toArray, List.set_cons_zero, List.set_cons_succ]
  refine region_end (by kernel_rfl) ?_
  go_wp2_with fail
  (with_reducible apply pst_set (k := 4) (g := w.heap.size + 1))
  case hf => rfl
  case hp => rfl
  case hB => exact HRd.out
  case hb => exact HBd.out
  case hg => omega
  rfl
set_option maxRecDepth 100000 in
set_option maxHeartbeats 3200000 in
theorem pstp_8 (N A' P : ByteArray) (t : HS) (c : UInt8) (w : World)
    (hc : ∀ W, Calls Try.prog 28 #[.agg #[.int .i64 8, .string N, .string A', .string P], .int .u8 c.toNat, .int .u8 39, .agg #[.int .i64 1, .string N, .string ⟨#[]⟩, .string ⟨#[]⟩]] W (SvV (.agg #[.int .i64 (t.c : Nat), .string (ofL t.n), .string (ofL t.a), .string (ofL t.p)]) W)) :
    Calls Try.prog 20 #[stV 8 N A' P, .int .u8 c.toNat] w (SvV t.val w) := by
  unfold stV
  have HC := Lib.hid hc
  clear hc
  have HTG : Hid (∀ W, Calls Try.prog 31 #[.agg #[.int .i64 8, .string N, .string A', .string P]] W (SvV (.agg #[.int .i64 1, .string N, .string ⟨#[]⟩, .string ⟨#[]⟩]) W)) := Lib.hid (fun W => ptag_c 8 N A' P W)
  have HB2 := Lib.hid ((Bel.alloc w (.cells #[.int .i64 8, .string N, .string A', .string P] 34)).trans (Bel.alloc (w.alloc (.cells #[.int .i64 8, .string N, .string A', .string P] 34)) (.cells #[.int .i64 0, .string ⟨#[]⟩, .string ⟨#[]⟩, .string ⟨#[]⟩] 34)))
  have HR2 := Lib.hid (blk_at1h w (.cells #[.int .i64 8, .string N, .string A', .string P] 34) 34 [.int .i64 0, .string ⟨#[]⟩, .string ⟨#[]⟩, .string ⟨#[]⟩])
  have HX2 := Lib.hid ((Blk.new w 34 [.int .i64 8, .string N, .string A', .string P]).alloc (.cells #[.int .i64 0, .string ⟨#[]⟩, .string ⟨#[]⟩, .string ⟨#[]⟩] 34))
  go_enter Try.func20, Try.ntmps20
  go_wp2_with fail
  refine region_begin (T := [w.heap.size + 1]) (by kernel_rfl) ?_
  have HBd := Lib.hid (HB2.out.trans (Bel.drew _))
  have HRd := Lib.hid HR2.out.drew
  have HXd := Lib.hid HX2.out.drew
  generalize ((w.alloc (.cells #[.int .i64 8, .string N, .string A', .string P] 34)).alloc (.cells #[.int .i64 0, .string ⟨#[]⟩, .string ⟨#[]⟩, .string ⟨#[]⟩] 34)).drew = Wd at HBd HRd HXd ⊢
  have p0 : ∀ X : Later [w.heap.size + 1] Wd, X.w.cell? ⟨w.heap.size, 0, none⟩ = some (.int .i64 8) := fun X => (HXd.out.only X.h (by simp)).cell 0
  have p1 : ∀ X : Later [w.heap.size + 1] Wd, X.w.cell? ⟨w.heap.size, 1, none⟩ = some (.string N) := fun X => (HXd.out.only X.h (by simp)).cell 1
  have p2 : ∀ X : Later [w.heap.size + 1] Wd, X.w.cell? ⟨w.heap.size, 2, none⟩ = some (.string A') := fun X => (HXd.out.only X.h (by simp)).cell 2
  have p3 : ∀ X : Later [w.heap.size + 1] Wd, X.w.cell? ⟨w.heap.size, 3, none⟩ = some (.string P) := fun X => (HXd.out.only X.h (by simp)).cell 3
  refine region_seg [true, true, true] 3 (by kernel_rfl) (by kernel_rfl) (by kernel_rfl) rfl (fun _ _ d _ _ h => by cases d <;> exact h) ?_
  repeat (first | with_reducible refine wpMask_pass ?_ | (refine wpMask_want (by rfl) (fun K hK => ?_); go_big_quiet_op; refine hK _ ?_; clear hK K))
  with_reducible refine wpMask_nil ?_
  clear p0 p1 p2 p3
  refine region_call 3 (by kernel_rfl) rfl (by rfl) (by go_simp; exact ⟨rfl, rfl⟩) ?_
  (with_reducible refine (HTG.out _).mono ?_); rintro e w2 ⟨rfl, hb⟩; refine ⟨_, rfl, (Only.refl [w.heap.size + 1] _).join (bel_only hb) (by simp), ?_⟩
  replace HBd := Lib.hid (HBd.out.trans hb)
  replace HRd := Lib.hid (HRd.out.belh hb)
  clear hb
  simp only [List.getElem_toArray, List.getElem_cons_zero, List.getElem_cons_succ, Act.put, List.setIfInBounds_toArray, List.set_cons_zero, List.set_cons_succ]
  refine region_call 4 (by kernel_rfl) rfl (by rfl) (by go_simp; exact ⟨rfl, rfl⟩) ?_
  (with_reducible refine (HC.out _).mono ?_); rintro e w3 ⟨rfl, hb⟩; refine ⟨_, rfl, (Only.refl [w.heap.size + 1] _).join (bel_only hb) (by simp), ?_⟩
  replace HBd := Lib.hid (HBd.out.trans hb)
  replace HRd := Lib.hid (HRd.out.belh hb)
  clear hb
  simp only [List.getElem_toArray, List.getElem_cons_zero, List.getElem_cons_succ, Act.put, List.setIfInBounds_toArray, List.set_cons_zero, List.set_cons_succ]
  obtain ⟨r0, r1, r2, r3⟩ := cells4 HRd.out
  obtain ⟨v0, v1, v2, v3⟩ := frees4 HRd.out
  refine region_store 5 (w1 := ((((w3.setCell ⟨w.heap.size + 1, 0, none⟩ (.int .i64 (t.c : Nat))).setCell ⟨w.heap.size + 1, 1, none⟩ (.string (ofL t.n))).setCell ⟨w.heap.size + 1, 2, none⟩ (.string (ofL t.a))).setCell ⟨w.heap.size + 1, 3, none⟩ (.string (ofL t.p)))) (by kernel_rfl) rfl (by rfl) (by go_simp) (((((Only.refl [w.heap.size + 1] _).setCell (.inl (by simp)) _).setCell (.inl (by simp)) _).setCell (.inl (by simp)) _).setCell (.inl (by simp)) _) ?_
  simp only [List.getElem_toArray, List.getElem_cons_zero, List.getElem_cons_succ, Act.put, List.setIfInBounds_toArray, List.set_cons_zero, List.set_cons_succ]
  refine region_end (by kernel_rfl) ?_
  go_wp2_with fail
  (with_reducible apply pst_set (k := 4) (g := w.heap.size + 1))
  case hf => rfl
  case hp => rfl
  case hB => exact HRd.out
  case hb => exact HBd.out
  case hg => omega
  rfl
set_option maxRecDepth 100000 in
set_option maxHeartbeats 3200000 in
theorem pstp_9 (N A' P : ByteArray) (t : HS) (c : UInt8) (w : World)
    (hc : ∀ W, Calls Try.prog 28 #[.agg #[.int .i64 9, .string N, .string A', .string P], .int .u8 c.toNat, .int .u8 34, .agg #[.int .i64 1, .string N, .string ⟨#[]⟩, .string ⟨#[]⟩]] W (SvV (.agg #[.int .i64 (t.c : Nat), .string (ofL t.n), .string (ofL t.a), .string (ofL t.p)]) W)) :
    Calls Try.prog 20 #[stV 9 N A' P, .int .u8 c.toNat] w (SvV t.val w) := by
  unfold stV
  have HC := Lib.hid hc
  clear hc
  have HTG : Hid (∀ W, Calls Try.prog 31 #[.agg #[.int .i64 9, .string N, .string A', .string P]] W (SvV (.agg #[.int .i64 1, .string N, .string ⟨#[]⟩, .string ⟨#[]⟩]) W)) := Lib.hid (fun W => ptag_c 9 N A' P W)
  have HB2 := Lib.hid ((Bel.alloc w (.cells #[.int .i64 9, .string N, .string A', .string P] 34)).trans (Bel.alloc (w.alloc (.cells #[.int .i64 9, .string N, .string A', .string P] 34)) (.cells #[.int .i64 0, .string ⟨#[]⟩, .string ⟨#[]⟩, .string ⟨#[]⟩] 34)))
  have HR2 := Lib.hid (blk_at1h w (.cells #[.int .i64 9, .string N, .string A', .string P] 34) 34 [.int .i64 0, .string ⟨#[]⟩, .string ⟨#[]⟩, .string ⟨#[]⟩])
  have HX2 := Lib.hid ((Blk.new w 34 [.int .i64 9, .string N, .string A', .string P]).alloc (.cells #[.int .i64 0, .string ⟨#[]⟩, .string ⟨#[]⟩, .string ⟨#[]⟩] 34))
  go_enter Try.func20, Try.ntmps20
  go_wp2_with fail
  refine region_begin (T := [w.heap.size + 1]) (by kernel_rfl) ?_
  have HBd := Lib.hid (HB2.out.trans (Bel.drew _))
  have HRd := Lib.hid HR2.out.drew
  have HXd := Lib.hid HX2.out.drew
  generalize ((w.alloc (.cells #[.int .i64 9, .string N, .string A', .string P] 34)).alloc (.cells #[.int .i64 0, .string ⟨#[]⟩, .string ⟨#[]⟩, .string ⟨#[]⟩] 34)).drew = Wd at HBd HRd HXd ⊢
  have p0 : ∀ X : Later [w.heap.size + 1] Wd, X.w.cell? ⟨w.heap.size, 0, none⟩ = some (.int .i64 9) := fun X => (HXd.out.only X.h (by simp)).cell 0
  have p1 : ∀ X : Later [w.heap.size + 1] Wd, X.w.cell? ⟨w.heap.size, 1, none⟩ = some (.string N) := fun X => (HXd.out.only X.h (by simp)).cell 1
  have p2 : ∀ X : Later [w.heap.size + 1] Wd, X.w.cell? ⟨w.heap.size, 2, none⟩ = some (.string A') := fun X => (HXd.out.only X.h (by simp)).cell 2
  have p3 : ∀ X : Later [w.heap.size + 1] Wd, X.w.cell? ⟨w.heap.size, 3, none⟩ = some (.string P) := fun X => (HXd.out.only X.h (by simp)).cell 3
  refine region_seg [true, true, true] 3 (by kernel_rfl) (by kernel_rfl) (by kernel_rfl) rfl (fun _ _ d _ _ h => by cases d <;> exact h) ?_
  repeat (first | with_reducible refine wpMask_pass ?_ | (refine wpMask_want (by rfl) (fun K hK => ?_); go_big_quiet_op; refine hK _ ?_; clear hK K))
  with_reducible refine wpMask_nil ?_
  clear p0 p1 p2 p3
  refine region_call 3 (by kernel_rfl) rfl (by rfl) (by go_simp; exact ⟨rfl, rfl⟩) ?_
  (with_reducible refine (HTG.out _).mono ?_); rintro e w2 ⟨rfl, hb⟩; refine ⟨_, rfl, (Only.refl [w.heap.size + 1] _).join (bel_only hb) (by simp), ?_⟩
  replace HBd := Lib.hid (HBd.out.trans hb)
  replace HRd := Lib.hid (HRd.out.belh hb)
  clear hb
  simp only [List.getElem_toArray, List.getElem_cons_zero, List.getElem_cons_succ, Act.put, List.setIfInBounds_toArray, List.set_cons_zero, List.set_cons_succ]
  refine region_call 4 (by kernel_rfl) rfl (by rfl) (by go_simp; exact ⟨rfl, rfl⟩) ?_
  (with_reducible refine (HC.out _).mono ?_); rintro e w3 ⟨rfl, hb⟩; refine ⟨_, rfl, (Only.refl [w.heap.size + 1] _).join (bel_only hb) (by simp), ?_⟩
  replace HBd := Lib.hid (HBd.out.trans hb)
  replace HRd := Lib.hid (HRd.out.belh hb)
  clear hb
  simp only [List.getElem_toArray, List.getElem_cons_zero, List.getElem_cons_succ, Act.put, List.setIfInBounds_toArray, List.set_cons_zero, List.set_cons_succ]
  obtain ⟨r0, r1, r2, r3⟩ := cells4 HRd.out
  obtain ⟨v0, v1, v2, v3⟩ := frees4 HRd.out
  refine region_store 5 (w1 := ((((w3.setCell ⟨w.heap.size + 1, 0, none⟩ (.int .i64 (t.c : Nat))).setCell ⟨w.heap.size + 1, 1, none⟩ (.string (ofL t.n))).setCell ⟨w.heap.size + 1, 2, none⟩ (.string (ofL t.a))).setCell ⟨w.heap.size + 1, 3, none⟩ (.string (ofL t.p)))) (by kernel_rfl) rfl (by rfl) (by go_simp) (((((Only.refl [w.heap.size + 1] _).setCell (.inl (by simp)) _).setCell (.inl (by simp)) _).setCell (.inl (by simp)) _).setCell (.inl (by simp)) _) ?_
  simp only [List.getElem_toArray, List.getElem_cons_zero, List.getElem_cons_succ, Act.put, List.setIfInBounds_toArray, List.set_cons_zero, List.set_cons_succ]
  refine region_end (by kernel_rfl) ?_
  go_wp2_with fail
  (with_reducible apply pst_set (k := 4) (g := w.heap.size + 1))
  case hf => rfl
  case hp => rfl
  case hB => exact HRd.out
  case hb => exact HBd.out
  case hg => omega
  rfl
set_option maxRecDepth 100000 in
set_option maxHeartbeats 3200000 in
theorem pstp_10 (N A' P : ByteArray) (t : HS) (c : UInt8) (w : World)
    (hc : ∀ W, Calls Try.prog 28 #[.agg #[.int .i64 10, .string N, .string A', .string P], .int .u8 c.toNat, .int .u8 39, .agg #[.int .i64 1, .string N, .string ⟨#[]⟩, .string ⟨#[]⟩]] W (SvV (.agg #[.int .i64 (t.c : Nat), .string (ofL t.n), .string (ofL t.a), .string (ofL t.p)]) W)) :
    Calls Try.prog 20 #[stV 10 N A' P, .int .u8 c.toNat] w (SvV t.val w) := by
  unfold stV
  have HC := Lib.hid hc
  clear hc
  have HTG : Hid (∀ W, Calls Try.prog 31 #[.agg #[.int .i64 10, .string N, .string A', .string P]] W (SvV (.agg #[.int .i64 1, .string N, .string ⟨#[]⟩, .string ⟨#[]⟩]) W)) := Lib.hid (fun W => ptag_c 10 N A' P W)
  have HB2 := Lib.hid ((Bel.alloc w (.cells #[.int .i64 10, .string N, .string A', .string P] 34)).trans (Bel.alloc (w.alloc (.cells #[.int .i64 10, .string N, .string A', .string P] 34)) (.cells #[.int .i64 0, .string ⟨#[]⟩, .string ⟨#[]⟩, .string ⟨#[]⟩] 34)))
  have HR2 := Lib.hid (blk_at1h w (.cells #[.int .i64 10, .string N, .string A', .string P] 34) 34 [.int .i64 0, .string ⟨#[]⟩, .string ⟨#[]⟩, .string ⟨#[]⟩])
  have HX2 := Lib.hid ((Blk.new w 34 [.int .i64 10, .string N, .string A', .string P]).alloc (.cells #[.int .i64 0, .string ⟨#[]⟩, .string ⟨#[]⟩, .string ⟨#[]⟩] 34))
  go_enter Try.func20, Try.ntmps20
  go_wp2_with fail
  refine region_begin (T := [w.heap.size + 1]) (by kernel_rfl) ?_
  have HBd := Lib.hid (HB2.out.trans (Bel.drew _))
  have HRd := Lib.hid HR2.out.drew
  have HXd := Lib.hid HX2.out.drew
  generalize ((w.alloc (.cells #[.int .i64 10, .string N, .string A', .string P] 34)).alloc (.cells #[.int .i64 0, .string ⟨#[]⟩, .string ⟨#[]⟩, .string ⟨#[]⟩] 34)).drew = Wd at HBd HRd HXd ⊢
  have p0 : ∀ X : Later [w.heap.size + 1] Wd, X.w.cell? ⟨w.heap.size, 0, none⟩ = some (.int .i64 10) := fun X => (HXd.out.only X.h (by simp)).cell 0
  have p1 : ∀ X : Later [w.heap.size + 1] Wd, X.w.cell? ⟨w.heap.size, 1, none⟩ = some (.string N) := fun X => (HXd.out.only X.h (by simp)).cell 1
  have p2 : ∀ X : Later [w.heap.size + 1] Wd, X.w.cell? ⟨w.heap.size, 2, none⟩ = some (.string A') := fun X => (HXd.out.only X.h (by simp)).cell 2
  have p3 : ∀ X : Later [w.heap.size + 1] Wd, X.w.cell? ⟨w.heap.size, 3, none⟩ = some (.string P) := fun X => (HXd.out.only X.h (by simp)).cell 3
  refine region_seg [true, true, true] 3 (by kernel_rfl) (by kernel_rfl) (by kernel_rfl) rfl (fun _ _ d _ _ h => by cases d <;> exact h) ?_
  repeat (first | with_reducible refine wpMask_pass ?_ | (refine wpMask_want (by rfl) (fun K hK => ?_); go_big_quiet_op; refine hK _ ?_; clear hK K))
  with_reducible refine wpMask_nil ?_
  clear p0 p1 p2 p3
  refine region_call 3 (by kernel_rfl) rfl (by rfl) (by go_simp; exact ⟨rfl, rfl⟩) ?_
  (with_reducible refine (HTG.out _).mono ?_); rintro e w2 ⟨rfl, hb⟩; refine ⟨_, rfl, (Only.refl [w.heap.size + 1] _).join (bel_only hb) (by simp), ?_⟩
  replace HBd := Lib.hid (HBd.out.trans hb)
  replace HRd := Lib.hid (HRd.out.belh hb)
  clear hb
  simp only [List.getElem_toArray, List.getElem_cons_zero, List.getElem_cons_succ, Act.put, List.setIfInBounds_toArray, List.set_cons_zero, List.set_cons_succ]
  refine region_call 4 (by kernel_rfl) rfl (by rfl) (by go_simp; exact ⟨rfl, rfl⟩) ?_
  (with_reducible refine (HC.out _).mono ?_); rintro e w3 ⟨rfl, hb⟩; refine ⟨_, rfl, (Only.refl [w.heap.size + 1] _).join (bel_only hb) (by simp), ?_⟩
  replace HBd := Lib.hid (HBd.out.trans hb)
  replace HRd := Lib.hid (HRd.out.belh hb)
  clear hb
  simp only [List.getElem_toArray, List.getElem_cons_zero, List.getElem_cons_succ, Act.put, List.setIfInBounds_toArray, List.set_cons_zero, List.set_cons_succ]
  obtain ⟨r0, r1, r2, r3⟩ := cells4 HRd.out
  obtain ⟨v0, v1, v2, v3⟩ := frees4 HRd.out
  refine region_store 5 (w1 := ((((w3.setCell ⟨w.heap.size + 1, 0, none⟩ (.int .i64 (t.c : Nat))).setCell ⟨w.heap.size + 1, 1, none⟩ (.string (ofL t.n))).setCell ⟨w.heap.size + 1, 2, none⟩ (.string (ofL t.a))).setCell ⟨w.heap.size + 1, 3, none⟩ (.string (ofL t.p)))) (by kernel_rfl) rfl (by rfl) (by go_simp) (((((Only.refl [w.heap.size + 1] _).setCell (.inl (by simp)) _).setCell (.inl (by simp)) _).setCell (.inl (by simp)) _).setCell (.inl (by simp)) _) ?_
  simp only [List.getElem_toArray, List.getElem_cons_zero, List.getElem_cons_succ, Act.put, List.setIfInBounds_toArray, List.set_cons_zero, List.set_cons_succ]
  refine region_end (by kernel_rfl) ?_
  go_wp2_with fail
  (with_reducible apply pst_set (k := 4) (g := w.heap.size + 1))
  case hf => rfl
  case hp => rfl
  case hB => exact HRd.out
  case hb => exact HBd.out
  case hg => omega
  rfl
set_option maxRecDepth 100000 in
set_option maxHeartbeats 3200000 in
theorem pstp_11 (N A' P : ByteArray) (t : HS) (c : UInt8) (w : World)
    (hc : ∀ W, Calls Try.prog 28 #[.agg #[.int .i64 11, .string N, .string A', .string P], .int .u8 c.toNat, .int .u8 34, .agg #[.int .i64 1, .string N, .string ⟨#[]⟩, .string ⟨#[]⟩]] W (SvV (.agg #[.int .i64 (t.c : Nat), .string (ofL t.n), .string (ofL t.a), .string (ofL t.p)]) W)) :
    Calls Try.prog 20 #[stV 11 N A' P, .int .u8 c.toNat] w (SvV t.val w) := by
  unfold stV
  have HC := Lib.hid hc
  clear hc
  have HTG : Hid (∀ W, Calls Try.prog 31 #[.agg #[.int .i64 11, .string N, .string A', .string P]] W (SvV (.agg #[.int .i64 1, .string N, .string ⟨#[]⟩, .string ⟨#[]⟩]) W)) := Lib.hid (fun W => ptag_c 11 N A' P W)
  have HB2 := Lib.hid ((Bel.alloc w (.cells #[.int .i64 11, .string N, .string A', .string P] 34)).trans (Bel.alloc (w.alloc (.cells #[.int .i64 11, .string N, .string A', .string P] 34)) (.cells #[.int .i64 0, .string ⟨#[]⟩, .string ⟨#[]⟩, .string ⟨#[]⟩] 34)))
  have HR2 := Lib.hid (blk_at1h w (.cells #[.int .i64 11, .string N, .string A', .string P] 34) 34 [.int .i64 0, .string ⟨#[]⟩, .string ⟨#[]⟩, .string ⟨#[]⟩])
  have HX2 := Lib.hid ((Blk.new w 34 [.int .i64 11, .string N, .string A', .string P]).alloc (.cells #[.int .i64 0, .string ⟨#[]⟩, .string ⟨#[]⟩, .string ⟨#[]⟩] 34))
  go_enter Try.func20, Try.ntmps20
  go_wp2_with fail
  refine region_begin (T := [w.heap.size + 1]) (by kernel_rfl) ?_
  have HBd := Lib.hid (HB2.out.trans (Bel.drew _))
  have HRd := Lib.hid HR2.out.drew
  have HXd := Lib.hid HX2.out.drew
  generalize ((w.alloc (.cells #[.int .i64 11, .string N, .string A', .string P] 34)).alloc (.cells #[.int .i64 0, .string ⟨#[]⟩, .string ⟨#[]⟩, .string ⟨#[]⟩] 34)).drew = Wd at HBd HRd HXd ⊢
  have p0 : ∀ X : Later [w.heap.size + 1] Wd, X.w.cell? ⟨w.heap.size, 0, none⟩ = some (.int .i64 11) := fun X => (HXd.out.only X.h (by simp)).cell 0
  have p1 : ∀ X : Later [w.heap.size + 1] Wd, X.w.cell? ⟨w.heap.size, 1, none⟩ = some (.string N) := fun X => (HXd.out.only X.h (by simp)).cell 1
  have p2 : ∀ X : Later [w.heap.size + 1] Wd, X.w.cell? ⟨w.heap.size, 2, none⟩ = some (.string A') := fun X => (HXd.out.only X.h (by simp)).cell 2
  have p3 : ∀ X : Later [w.heap.size + 1] Wd, X.w.cell? ⟨w.heap.size, 3, none⟩ = some (.string P) := fun X => (HXd.out.only X.h (by simp)).cell 3
  refine region_seg [true, true, true] 3 (by kernel_rfl) (by kernel_rfl) (by kernel_rfl) rfl (fun _ _ d _ _ h => by cases d <;> exact h) ?_
  repeat (first | with_reducible refine wpMask_pass ?_ | (refine wpMask_want (by rfl) (fun K hK => ?_); go_big_quiet_op; refine hK _ ?_; clear hK K))
  with_reducible refine wpMask_nil ?_
  clear p0 p1 p2 p3
  refine region_call 3 (by kernel_rfl) rfl (by rfl) (by go_simp; exact ⟨rfl, rfl⟩) ?_
  (with_reducible refine (HTG.out _).mono ?_); rintro e w2 ⟨rfl, hb⟩; refine ⟨_, rfl, (Only.refl [w.heap.size + 1] _).join (bel_only hb) (by simp), ?_⟩
  replace HBd := Lib.hid (HBd.out.trans hb)
  replace HRd := Lib.hid (HRd.out.belh hb)
  clear hb
  simp only [List.getElem_toArray, List.getElem_cons_zero, List.getElem_cons_succ, Act.put, List.setIfInBounds_toArray, List.set_cons_zero, List.set_cons_succ]
  refine region_call 4 (by kernel_rfl) rfl (by rfl) (by go_simp; exact ⟨rfl, rfl⟩) ?_
  (with_reducible refine (HC.out _).mono ?_); rintro e w3 ⟨rfl, hb⟩; refine ⟨_, rfl, (Only.refl [w.heap.size + 1] _).join (bel_only hb) (by simp), ?_⟩
  replace HBd := Lib.hid (HBd.out.trans hb)
  replace HRd := Lib.hid (HRd.out.belh hb)
  clear hb
  simp only [List.getElem_toArray, List.getElem_cons_zero, List.getElem_cons_succ, Act.put, List.setIfInBounds_toArray, List.set_cons_zero, List.set_cons_succ]
  obtain ⟨r0, r1, r2, r3⟩ := cells4 HRd.out
  obtain ⟨v0, v1, v2, v3⟩ := frees4 HRd.out
  refine region_store 5 (w1 := ((((w3.setCell ⟨w.heap.size + 1, 0, none⟩ (.int .i64 (t.c : Nat))).setCell ⟨w.heap.size + 1, 1, none⟩ (.string (ofL t.n))).setCell ⟨w.heap.size + 1, 2, none⟩ (.string (ofL t.a))).setCell ⟨w.heap.size + 1, 3, none⟩ (.string (ofL t.p)))) (by kernel_rfl) rfl (by rfl) (by go_simp) (((((Only.refl [w.heap.size + 1] _).setCell (.inl (by simp)) _).setCell (.inl (by simp)) _).setCell (.inl (by simp)) _).setCell (.inl (by simp)) _) ?_
  simp only [List.getElem_toArray, List.getElem_cons_zero, List.getElem_cons_succ, Act.put, List.setIfInBounds_toArray, List.set_cons_zero, List.set_cons_succ]
  refine region_end (by kernel_rfl) ?_
  go_wp2_with fail
  (with_reducible apply pst_set (k := 4) (g := w.heap.size + 1))
  case hf => rfl
  case hp => rfl
  case hB => exact HRd.out
  case hb => exact HBd.out
  case hg => omega
  rfl
set_option maxRecDepth 100000 in
set_option maxHeartbeats 3200000 in
theorem pstp_12 (N A' P : ByteArray) (t : HS) (c : UInt8) (w : World)
    (hc : ∀ W, Calls Try.prog 28 #[.agg #[.int .i64 12, .string N, .string A', .string P], .int .u8 c.toNat, .int .u8 39, .agg #[.int .i64 1, .string N, .string ⟨#[]⟩, .string ⟨#[]⟩]] W (SvV (.agg #[.int .i64 (t.c : Nat), .string (ofL t.n), .string (ofL t.a), .string (ofL t.p)]) W)) :
    Calls Try.prog 20 #[stV 12 N A' P, .int .u8 c.toNat] w (SvV t.val w) := by
  unfold stV
  have HC := Lib.hid hc
  clear hc
  have HTG : Hid (∀ W, Calls Try.prog 31 #[.agg #[.int .i64 12, .string N, .string A', .string P]] W (SvV (.agg #[.int .i64 1, .string N, .string ⟨#[]⟩, .string ⟨#[]⟩]) W)) := Lib.hid (fun W => ptag_c 12 N A' P W)
  have HB2 := Lib.hid ((Bel.alloc w (.cells #[.int .i64 12, .string N, .string A', .string P] 34)).trans (Bel.alloc (w.alloc (.cells #[.int .i64 12, .string N, .string A', .string P] 34)) (.cells #[.int .i64 0, .string ⟨#[]⟩, .string ⟨#[]⟩, .string ⟨#[]⟩] 34)))
  have HR2 := Lib.hid (blk_at1h w (.cells #[.int .i64 12, .string N, .string A', .string P] 34) 34 [.int .i64 0, .string ⟨#[]⟩, .string ⟨#[]⟩, .string ⟨#[]⟩])
  have HX2 := Lib.hid ((Blk.new w 34 [.int .i64 12, .string N, .string A', .string P]).alloc (.cells #[.int .i64 0, .string ⟨#[]⟩, .string ⟨#[]⟩, .string ⟨#[]⟩] 34))
  go_enter Try.func20, Try.ntmps20
  go_wp2_with fail
  refine region_begin (T := [w.heap.size + 1]) (by kernel_rfl) ?_
  have HBd := Lib.hid (HB2.out.trans (Bel.drew _))
  have HRd := Lib.hid HR2.out.drew
  have HXd := Lib.hid HX2.out.drew
  generalize ((w.alloc (.cells #[.int .i64 12, .string N, .string A', .string P] 34)).alloc (.cells #[.int .i64 0, .string ⟨#[]⟩, .string ⟨#[]⟩, .string ⟨#[]⟩] 34)).drew = Wd at HBd HRd HXd ⊢
  have p0 : ∀ X : Later [w.heap.size + 1] Wd, X.w.cell? ⟨w.heap.size, 0, none⟩ = some (.int .i64 12) := fun X => (HXd.out.only X.h (by simp)).cell 0
  have p1 : ∀ X : Later [w.heap.size + 1] Wd, X.w.cell? ⟨w.heap.size, 1, none⟩ = some (.string N) := fun X => (HXd.out.only X.h (by simp)).cell 1
  have p2 : ∀ X : Later [w.heap.size + 1] Wd, X.w.cell? ⟨w.heap.size, 2, none⟩ = some (.string A') := fun X => (HXd.out.only X.h (by simp)).cell 2
  have p3 : ∀ X : Later [w.heap.size + 1] Wd, X.w.cell? ⟨w.heap.size, 3, none⟩ = some (.string P) := fun X => (HXd.out.only X.h (by simp)).cell 3
  refine region_seg [true, true, true] 3 (by kernel_rfl) (by kernel_rfl) (by kernel_rfl) rfl (fun _ _ d _ _ h => by cases d <;> exact h) ?_
  repeat (first | with_reducible refine wpMask_pass ?_ | (refine wpMask_want (by rfl) (fun K hK => ?_); go_big_quiet_op; refine hK _ ?_; clear hK K))
  with_reducible refine wpMask_nil ?_
  clear p0 p1 p2 p3
  refine region_call 3 (by kernel_rfl) rfl (by rfl) (by go_simp; exact ⟨rfl, rfl⟩) ?_
  (with_reducible refine (HTG.out _).mono ?_); rintro e w2 ⟨rfl, hb⟩; refine ⟨_, rfl, (Only.refl [w.heap.size + 1] _).join (bel_only hb) (by simp), ?_⟩
  replace HBd := Lib.hid (HBd.out.trans hb)
  replace HRd := Lib.hid (HRd.out.belh hb)
  clear hb
  simp only [List.getElem_toArray, List.getElem_cons_zero, List.getElem_cons_succ, Act.put, List.setIfInBounds_toArray, List.set_cons_zero, List.set_cons_succ]
  refine region_call 4 (by kernel_rfl) rfl (by rfl) (by go_simp; exact ⟨rfl, rfl⟩) ?_
  (with_reducible refine (HC.out _).mono ?_); rintro e w3 ⟨rfl, hb⟩; refine ⟨_, rfl, (Only.refl [w.heap.size + 1] _).join (bel_only hb) (by simp), ?_⟩
  replace HBd := Lib.hid (HBd.out.trans hb)
  replace HRd := Lib.hid (HRd.out.belh hb)
  clear hb
  simp only [List.getElem_toArray, List.getElem_cons_zero, List.getElem_cons_succ, Act.put, List.setIfInBounds_toArray, List.set_cons_zero, List.set_cons_succ]
  obtain ⟨r0, r1, r2, r3⟩ := cells4 HRd.out
  obtain ⟨v0, v1, v2, v3⟩ := frees4 HRd.out
  refine region_store 5 (w1 := ((((w3.setCell ⟨w.heap.size + 1, 0, none⟩ (.int .i64 (t.c : Nat))).setCell ⟨w.heap.size + 1, 1, none⟩ (.string (ofL t.n))).setCell ⟨w.heap.size + 1, 2, none⟩ (.string (ofL t.a))).setCell ⟨w.heap.size + 1, 3, none⟩ (.string (ofL t.p)))) (by kernel_rfl) rfl (by rfl) (by go_simp) (((((Only.refl [w.heap.size + 1] _).setCell (.inl (by simp)) _).setCell (.inl (by simp)) _).setCell (.inl (by simp)) _).setCell (.inl (by simp)) _) ?_
  simp only [List.getElem_toArray, List.getElem_cons_zero, List.getElem_cons_succ, Act.put, List.setIfInBounds_toArray, List.set_cons_zero, List.set_cons_succ]
  refine region_end (by kernel_rfl) ?_
  go_wp2_with fail
  (with_reducible apply pst_set (k := 4) (g := w.heap.size + 1))
  case hf => rfl
  case hp => rfl
  case hB => exact HRd.out
  case hb => exact HBd.out
  case hg => omega
  rfl
theorem stay_eq (k j : Nat) (n a p m b q : List UInt8) (c d : UInt8) (W : World) : Calls Try.prog 28 #[stV (k : Nat) (ofL n) (ofL a) (ofL p), .int .u8 c.toNat, .int .u8 d.toNat, stV (j : Nat) (ofL m) (ofL b) (ofL q)] W (SvP (if c = d then ⟨j, m, b, q⟩ else ⟨k, n, a, p⟩) W) := by
  have h := pstay_c k j (ofL n) (ofL a) (ofL p) (ofL m) (ofL b) (ofL q) c d W
  rw [show (if c = d then stV (j : Nat) (ofL m) (ofL b) (ofL q) else stV (k : Nat) (ofL n) (ofL a) (ofL p)) = HS.val (if c = d then ⟨j, m, b, q⟩ else ⟨k, n, a, p⟩) from by split <;> rfl] at h
  exact h
/-- A step of the program. -/
theorem pstep_c (s : HS) (hi : Inv s) (c : UInt8) (w : World) : Calls Try.prog 20 #[s.val, .int .u8 c.toNat] w (SvP (stepS s c) w) := by
  obtain ⟨k, n, a, p⟩ := s
  have h21 : k ≤ 21 := hi.c
  have hn : n.length ≤ 100000 := Nat.le_trans hi.n.1 (by omega)
  have ha : a.length ≤ 100000 := Nat.le_trans hi.a.1 (by omega)
  unfold stepS
  show Calls _ _ #[stV (k : Nat) (ofL n) (ofL a) (ofL p), _] _ _
  by_cases g0 : k = 0
  · subst g0
    have e1 : n = [] := hi.n0 (.inl rfl)
    have e2 : a = [] := hi.a0 (by show (0:Nat) ≠ 3 ∧ (0:Nat) ≠ 4 ∧ (0:Nat) ≠ 5; omega)
    subst e1 e2
    exact pstp_0 _ _ _ _ c w fun W => ptext_c p (hi.p0 rfl) c W
  rw [if_neg g0]
  by_cases g12 : k ≤ 12
  · rw [if_pos (show (HS.mk k n a p).c ≤ 12 from g12)]
    have e1 : p = [] := hi.p1 ⟨by show 1 ≤ k; omega, g12⟩
    subst e1
    by_cases g6 : k ≤ 6
    · have hk : k = 1 ∨ k = 2 ∨ k = 3 ∨ k = 4 ∨ k = 5 ∨ k = 6 := by omega
      have h := fun W => ptagS_c k (by omega) g6 n a hn ha c W
      rcases hk with rfl | rfl | rfl | rfl | rfl | rfl
      · exact pstp_1 _ _ _ _ c w h
      · exact pstp_2 _ _ _ _ c w h
      · exact pstp_3 _ _ _ _ c w h
      · exact pstp_4 _ _ _ _ c w h
      · exact pstp_5 _ _ _ _ c w h
      · exact pstp_6 _ _ _ _ c w h
    · have hk : k = 7 ∨ k = 8 ∨ k = 9 ∨ k = 10 ∨ k = 11 ∨ k = 12 := by omega
      rcases hk with rfl | rfl | rfl | rfl | rfl | rfl
      · rw [show tagS ⟨7, n, a, []⟩ c = if c = 34 then ⟨1, n, [], []⟩ else ⟨7, n, a, []⟩ from by simp [tagS]]
        exact pstp_7 _ _ _ _ c w fun W => stay_eq 7 1 n a [] n [] [] c 34 W
      · rw [show tagS ⟨8, n, a, []⟩ c = if c = 39 then ⟨1, n, [], []⟩ else ⟨8, n, a, []⟩ from by simp [tagS]]
        exact pstp_8 _ _ _ _ c w fun W => stay_eq 8 1 n a [] n [] [] c 39 W
      · rw [show tagS ⟨9, n, a, []⟩ c = if c = 34 then ⟨1, n, [], []⟩ else ⟨9, n, a, []⟩ from by simp [tagS]]
        exact pstp_9 _ _ _ _ c w fun W => stay_eq 9 1 n a [] n [] [] c 34 W
      · rw [show tagS ⟨10, n, a, []⟩ c = if c = 39 then ⟨1, n, [], []⟩ else ⟨10, n, a, []⟩ from by simp [tagS]]
        exact pstp_10 _ _ _ _ c w fun W => stay_eq 10 1 n a [] n [] [] c 39 W
      · rw [show tagS ⟨11, n, a, []⟩ c = if c = 34 then ⟨1, n, [], []⟩ else ⟨11, n, a, []⟩ from by simp [tagS]]
        exact pstp_11 _ _ _ _ c w fun W => stay_eq 11 1 n a [] n [] [] c 34 W
      · rw [show tagS ⟨12, n, a, []⟩ c = if c = 39 then ⟨1, n, [], []⟩ else ⟨12, n, a, []⟩ from by simp [tagS]]
        exact pstp_12 _ _ _ _ c w fun W => stay_eq 12 1 n a [] n [] [] c 39 W
  rw [if_neg (show ¬ (HS.mk k n a p).c ≤ 12 from g12)]
  by_cases g13 : k = 13
  · subst g13
    exact pstp_13 _ _ _ _ c w fun W => pcomment_c _ _ _ p c W
  rw [if_neg g13]
  by_cases g15 : k ≤ 15
  · rw [if_pos (show (HS.mk k n a p).c ≤ 15 from g15)]
    have hk : k = 14 ∨ k = 15 := by omega
    rcases hk with rfl | rfl
    · exact pstp_14 _ _ _ _ c w fun W => stay_eq 14 0 n a p [] [] [] c 62 W
    · exact pstp_15 _ _ _ _ c w fun W => stay_eq 15 0 n a p [] [] [] c 62 W
  rw [if_neg (show ¬ (HS.mk k n a p).c ≤ 15 from g15)]
  have e1 : n = [] := hi.n0 (.inr (by show 13 ≤ k; omega))
  have e2 : a = [] := hi.a0 (by show k ≠ 3 ∧ k ≠ 4 ∧ k ≠ 5; omega)
  subst e1 e2
  have hpt : PtOk k p := hi.p16 (by show 16 ≤ k; omega)
  have h := fun W => pcontent_c k (by omega) h21 p hpt c W
  have hk : k = 16 ∨ k = 17 ∨ k = 18 ∨ k = 19 ∨ k = 20 ∨ k = 21 := by omega
  rcases hk with rfl | rfl | rfl | rfl | rfl | rfl
  · exact pstp_16 _ _ _ _ c w h
  · exact pstp_17 _ _ _ _ c w h
  · exact pstp_18 _ _ _ _ c w h
  · exact pstp_19 _ _ _ _ c w h
  · exact pstp_20 _ _ _ _ c w h
  · exact pstp_21 _ _ _ _ c w h
end Go.Proofs.Yteclclidibmajaa
