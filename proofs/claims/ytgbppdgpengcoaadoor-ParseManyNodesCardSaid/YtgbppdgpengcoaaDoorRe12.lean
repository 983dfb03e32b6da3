/-
  Contract: strings.Repeat.
-/
import Derived.Test.YtgbppdgpengcoaaDoorSplit11
import Derived.Test.YtgbppdgpengcoaaDoorNpure
namespace Go.Proofs.YtgbppdgpengcoaaDoor
open Go.RowKit Go.BigFrame
set_option linter.unusedVariables false
theorem rpExtra : Builder.Extra Tryd.prog Tryd.laysRP_ren where
  sizeBuilder := by kernel_rfl
  liesBuilder := by kernel_rfl
  t5 := Tryd.underlying5
  a5 := Tryd.isAgg5
  z5 := Tryd.sizeOf5
  v5 := Tryd.zeroValue5
  infoByte := by kernel_rfl
  cellsByte := by kernel_rfl
  sizeByte := by kernel_rfl
  neB5 := by decide
theorem repeat_rp (l : List UInt8) : ∀ k, Lib.repeatL l k = rp l k
  | 0 => by simp [Lib.repeatL, rp]
  | k + 1 => by rw [rp, ← repeat_rp l k]; simp [Lib.repeatL]
theorem repeat_c (l : List UInt8) (c : Nat) (w : World) (hc : l.length * c ≤ 1000000) (hc2 : c ≤ 1000000) :
    Calls Tryd.prog 18 #[.string (ofL l), .int .i64 c] w fun e w' => e = .returned (.string (ofL (rp l c))) ∧ Bel w w' := by
  refine (Any.strings_Repeat Tryd.laysRP rpExtra (ofL l) c w (by omega) (by show l.length * c ≤ _; omega)).mono fun e w' ⟨he, hb⟩ => ⟨?_, hb⟩
  rw [he]
  have : Lib.repeatL (ofL l).data.toList c = rp l c := repeat_rp l c
  rw [this]
  rfl
end Go.Proofs.YtgbppdgpengcoaaDoor
