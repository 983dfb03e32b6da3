/-
  Contracts: value.Text, the reference's Text.
-/
import Derived.Test.YtmgnomahnndeaaaDoorWeight
import Derived.Test.YtmgnomahnndeaaaDoorDec9
import Derived.Test.YtmgnomahnndeaaaDoorShelfFI
import Derived.Lib.AppendIntMem
namespace Go.Proofs.YtmgnomahnndeaaaDoor
open Go.RowKit Go.BigFrame
set_option linter.unusedVariables false
set_option linter.unusedSimpArgs false

/-- The table of powers of ten that Go's library reads. -/
def Pw (w : World) : Prop := Lib.TabIs Tryd.prog w "internal/strconv.uint64pow10" .u64 Lib.pow10Tab
theorem Pw.bel {w w' : World} (h : Pw w) (hb : Bel w w') : Pw w' := Lib.tabBelow_of_tabIs h w' hb
theorem formatInt_c (n : Int) (h0 : -9223372036854775808 ≤ n) (h1 : n ≤ 9223372036854775807) (w : World) (h : Pw w) :
    Calls Tryd.prog 33 #[.int .i64 n, .int .i64 10] w fun e w' => e = .returned (.string ⟨(Lib.itoa n).toArray⟩) ∧ Bel w w' :=
  (Any.strconv_FormatInt_10 Tryd.laysFI n h0 h1 w h).mono fun e w' ⟨he, k, os, hw⟩ => ⟨he, by subst hw; exact Lib.below_grow _ w (Nat.le_refl _) k os⟩
/-- What Text gives. -/
def textR (t : VT) : ByteArray × Int := if t.k = 0 then (t.s, 0) else if t.k = 1 then (⟨(Lib.itoa t.n).toArray⟩, 0) else (ByteArray.empty, 18)

set_option maxHeartbeats 1600000 in
theorem text_c (t : VT) (w : World) (hP : Pw w) (hI : t.In w (· < w.heap.size)) :
    Calls Tryd.prog 16 #[t.val] w fun e w' => e = .returned (.tuple #[.string (textR t).1, .int .i64 (textR t).2]) ∧ Bel w w' := by
  rw [VT.val_eq]
  obtain ⟨_, ⟨hn0, hn1⟩, _⟩ := hI.bounds
  have HW0 : Hid (Bel w (w.alloc (.cells #[.int .i64 t.k, .string t.s, .int .i64 t.n, .bool t.b, .slice t.A t.xs.length t.c, .slice t.F t.vs.length t.d] 34))) := Lib.hid (Bel.alloc _ _)
  have HF := Lib.hid (fun W (hb : Bel w W) => formatInt_c t.n hn0 hn1 W (hP.bel hb))
  unfold textR
  clear hI hP
  generalize t.k = k at *
  by_cases h0 : k = 0
  · subst h0
    rw [if_pos rfl]
    go_enter Tryd.func16, Tryd.ntmps16
    go_wp2_with fail
    go_ret2
    exact ⟨rfl, HW0.out⟩
  · rw [if_neg h0]
    by_cases h1 : k = 1
    · subst h1
      rw [if_pos rfl]
      go_enter Tryd.func16, Tryd.ntmps16
      go_wp2_with (go_at_call 33; refine (HF.out _ HW0.out).mono ?_; rintro e w1 ⟨rfl, hb⟩; have HB := Lib.hid (HW0.out.trans hb); clear hb)
      go_ret2
      exact ⟨rfl, HB.out⟩
    · rw [if_neg h1]
      go_enter Tryd.func16, Tryd.ntmps16
      go_wp2_with fail
      go_ret2
      exact ⟨rfl, HW0.out⟩
set_option maxHeartbeats 1600000 in
theorem refText_c (t : VT) (w : World) (hI : t.In w (· < w.heap.size)) :
    Calls Tryd.prog 17 #[t.val] w fun e w' => e = .returned (.tuple #[.string (textR t).1, .int .i64 (textR t).2]) ∧ Bel w w' := by
  rw [VT.val_eq]
  obtain ⟨_, ⟨hn0, hn1⟩, _⟩ := hI.bounds
  have HW0 : Hid (Bel w (w.alloc (.cells #[.int .i64 t.k, .string t.s, .int .i64 t.n, .bool t.b, .slice t.A t.xs.length t.c, .slice t.F t.vs.length t.d] 34))) := Lib.hid (Bel.alloc _ _)
  have HF := Lib.hid (fun W => decimal_c t.n hn0 hn1 W)
  unfold textR
  clear hI
  generalize t.k = k at *
  by_cases h0 : k = 0
  · subst h0
    rw [if_pos rfl]
    go_enter Tryd.func17, Tryd.ntmps17
    go_wp2_with fail
    go_ret2
    exact ⟨rfl, HW0.out⟩
  · rw [if_neg h0]
    by_cases h1 : k = 1
    · subst h1
      rw [if_pos rfl]
      go_enter Tryd.func17, Tryd.ntmps17
      go_wp2_with (go_at_call 34; refine (HF.out _).mono ?_; rintro e w1 ⟨rfl, hb⟩; have HB := Lib.hid (HW0.out.trans hb); clear hb)
      go_ret2
      exact ⟨rfl, HB.out⟩
    · rw [if_neg h1]
      go_enter Tryd.func17, Tryd.ntmps17
      go_wp2_with fail
      go_ret2
      exact ⟨rfl, HW0.out⟩
end Go.Proofs.YtmgnomahnndeaaaDoor
