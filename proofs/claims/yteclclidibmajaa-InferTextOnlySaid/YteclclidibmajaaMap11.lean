/-
  A map of the call's own with strings as keys (as XSm10, for a seat without values): what it holds, as a function of the key; asking and storing.
-/
import Derived.Test.YteclclidibmajaaStd11
import Derived.Maps.OwnSet
namespace Go.Proofs.Yteclclidibmajaa
open Go.RowKit Go.BigFrame Go.Maps Go.WideMaps
set_option linter.unusedVariables false

abbrev kL (k : ByteArray) : List UInt8 := k.data.toList
theorem kL_inj {a b : ByteArray} (h : kL a = kL b) : a = b := by
  cases a; cases b
  simp only [kL] at h
  rw [Array.toList_inj.1 h]
theorem keyLaw : Keyed Try.prog 9 := string_keyed Try.underlying9
/-- An element reads as itself. -/
def RVal (v : Value) : Option (DataW Value × List MemPlace) := some (.held v, [])
/-- Map M holds f; it has at most n entries. -/
def SMap (w : World) (M n : Nat) (f : ByteArray → Option Value) : Prop :=
  ∃ D : DataW Value, w.ownsMap Try.prog 9 RVal M n D ∧ ∀ key : ByteArray, (f key = none → has D (.string (kL key)) = false) ∧
    ∀ v, f key = some v → has D (.string (kL key)) = true ∧ ∀ z, D.atKey (.string (kL key)) z = .held v
theorem SMap.lt {w : World} {M n : Nat} {f : ByteArray → Option Value} (h : SMap w M n f) : M < w.heap.size := by
  obtain ⟨D, h1, _⟩ := h
  exact h1.lt
theorem SMap.made (w : World) : SMap (w.alloc (.map #[] 0)) w.heap.size 0 (fun _ => none) :=
  ⟨.map [], World.ownsMap_made _ _ _ _, fun key => ⟨fun _ => rfl, fun v hv => by cases hv⟩⟩
theorem SMap.mono {w : World} {M n m : Nat} {f : ByteArray → Option Value} (h : SMap w M n f) (hn : n ≤ m) : SMap w M m f := by
  obtain ⟨D, h1, h2⟩ := h
  exact ⟨D, h1.mono hn, h2⟩
theorem SMap.congr {w : World} {M n : Nat} {f g : ByteArray → Option Value} (h : SMap w M n f) (e : ∀ k, f k = g k) : SMap w M n g := by
  obtain rfl : f = g := funext e
  exact h
theorem SMap.only {w w' : World} {M n : Nat} {f : ByteArray → Option Value} {S : List Nat} (h : SMap w M n f) (ho : Only S w w') (hM : M ∉ S) : SMap w' M n f := by
  obtain ⟨D, h1, h2⟩ := h
  have hlt := h1.lt
  obtain ⟨es, clock, e, F, hs, hD⟩ := h1
  exact ⟨D, ⟨es, clock, (ho.block M hlt hM).trans e, F, hs, hD⟩, h2⟩
theorem SMap.bel {w w' : World} {M n : Nat} {f : ByteArray → Option Value} (h : SMap w M n f) (hb : Bel w w') : SMap w' M n f := h.only (Only.of_below (S := []) hb fun _ hk _ => hk) (by simp)
theorem SMap.alloc {w : World} {M n : Nat} {f : ByteArray → Option Value} (h : SMap w M n f) (o : Obj) : SMap (w.alloc o) M n f := h.bel (Bel.alloc _ _)
/-- A store. -/
theorem SMap.push {w : World} {M n : Nat} {f : ByteArray → Option Value} (h : SMap w M n f) {t e : TypeId} (ht : Try.prog.underlying t = some (.map 9 e)) (hn : n < maxLen) {key : ByteArray} (hk : key.size ≤ maxLen) (v : Value) :
    ∃ w', (Instr.mapUpdate t (.map (some M)) (.string key) v).run Try.prog w = .ok () w' ∧ SMap w' M (n + 1) (fun k => if k = key then some v else f k) ∧ w.grownBy w' (some M) := by
  obtain ⟨D, h1, h2⟩ := h
  have hkey : keyOf Try.prog 9 (.string key) = some (.string (kL key)) := keyOf_string_mk Try.underlying9 hk
  obtain ⟨w', hrun, hown, hg⟩ := h1.update keyLaw ht hn hkey (val := v) (show RVal _ = some (.held v, []) from rfl)
  refine ⟨w', hrun, ⟨_, hown, fun k => ?_⟩, hg⟩
  by_cases e : k = key
  · subst e
    simp only [if_true]
    refine ⟨fun h => (by cases h), fun u hu => ?_⟩
    injection hu with hu
    subst hu
    exact ⟨has_put_same h1.isMap (by simp [WideAt.IsKeyLit]) _, fun z => atKey_put_same h1.isMap (by simp [WideAt.IsKeyLit]) _ _⟩
  · have hne : (Lit.string (kL k)) ≠ Lit.string (kL key) := by
      intro e2
      injection e2 with e2
      exact e (kL_inj e2)
    simp only [if_neg e]
    refine ⟨fun h => (has_put_other hne _).trans ((h2 k).1 h), fun u hu => ?_⟩
    obtain ⟨a1, a2⟩ := (h2 k).2 u hu
    exact ⟨(has_put_other hne _).trans a1, fun z => (atKey_put_other hne _ _).trans (a2 z)⟩
set_option maxRecDepth 100000 in
/-- 'v, ok := m[k]'. -/
theorem SMap.look_ok {w : World} {M n : Nat} {f : ByteArray → Option Value} (h : SMap w M n f) {t e : TypeId} (ht : Try.prog.underlying t = some (.map 9 e)) {z : Value} (hz : (zeroValue e).run Try.prog w = .ok z w) {key : ByteArray} (hk : key.size ≤ maxLen) :
    (Instr.lookup t (.map (some M)) (.string key) true).run Try.prog w = .ok (.tuple #[(f key).getD z, .bool (f key).isSome]) w := by
  obtain ⟨D, h1, h2⟩ := h
  have hkey : keyOf Try.prog 9 (.string key) = some (.string (kL key)) := keyOf_string_mk Try.underlying9 hk
  obtain ⟨v, ps, hrun, hv⟩ := h1.look_ok keyLaw ht hz (show RVal _ = some (.held z, []) from rfl) hkey
  have hv' : DataW.held v = D.atKey (.string (kL key)) (.held z) := by
    unfold RVal at hv
    injection hv with hv
    exact congrArg (·.1) hv
  cases hf : f key with
  | none =>
    have a := (h2 key).1 hf
    rw [atKey_of_not_has a] at hv'
    injection hv' with hv'
    rw [hrun, a, hv']; rfl
  | some u =>
    obtain ⟨a, b⟩ := (h2 key).2 u hf
    rw [b] at hv'
    injection hv' with hv'
    rw [hrun, a, hv']; rfl
set_option maxRecDepth 100000 in
/-- 'm[k]'. -/
theorem SMap.look {w : World} {M n : Nat} {f : ByteArray → Option Value} (h : SMap w M n f) {t e : TypeId} (ht : Try.prog.underlying t = some (.map 9 e)) {z : Value} (hz : (zeroValue e).run Try.prog w = .ok z w) {key : ByteArray} (hk : key.size ≤ maxLen) :
    (Instr.lookup t (.map (some M)) (.string key) false).run Try.prog w = .ok ((f key).getD z) w := by
  obtain ⟨D, h1, h2⟩ := h
  have hkey : keyOf Try.prog 9 (.string key) = some (.string (kL key)) := keyOf_string_mk Try.underlying9 hk
  obtain ⟨v, ps, hrun, hv⟩ := h1.lookup keyLaw ht hz (show RVal _ = some (.held z, []) from rfl) hkey
  have hv' : DataW.held v = D.atKey (.string (kL key)) (.held z) := by
    unfold RVal at hv
    injection hv with hv
    exact congrArg (·.1) hv
  cases hf : f key with
  | none =>
    have a := (h2 key).1 hf
    rw [atKey_of_not_has a] at hv'
    injection hv' with hv'
    rw [hrun, hv']; rfl
  | some u =>
    obtain ⟨a, b⟩ := (h2 key).2 u hf
    rw [b] at hv'
    injection hv' with hv'
    rw [hrun, hv']; rfl
section
variable {w : World} {ops : Array Oper} {rest : List Oper} {o : Oper} {a : Act} {Q : Exit → Act → World → Prop}
theorem wp_look_ok (hg : o.guard = none) (m x : Operand) (t : TypeId) (hop : o.op = Op.lookup t m x true) (e : TypeId) (ht : Try.prog.underlying t = some (.map 9 e)) (z : Value) (hz : ∀ w, (zeroValue e).run Try.prog w = .ok z w)
    (M n : Nat) (f : ByteArray → Option Value) (hm : a.eval m = .map (some M)) (h : SMap w M n f) (key : ByteArray) (hx : a.eval x = .string key) (hk : key.size ≤ maxLen) (v : Value) (b : Bool) (hv : (f key).getD z = v) (hb : (f key).isSome = b)
    (hK : wpList Try.prog ops Q rest (a.put o.dst (.tuple #[v, .bool b])) w) : wpList Try.prog ops Q (o :: rest) a w := by
  refine wpList_plain hg fun K' hK' => ?_
  have hrun := h.look_ok ht (hz w) hk
  rw [hv, hb] at hrun
  unfold Oper.wp
  simp [execOp, hop, hm, hx, hrun, Result.andThen]
  exact hK' _ _ hK
theorem wp_look (hg : o.guard = none) (m x : Operand) (t : TypeId) (hop : o.op = Op.lookup t m x false) (e : TypeId) (ht : Try.prog.underlying t = some (.map 9 e)) (z : Value) (hz : ∀ w, (zeroValue e).run Try.prog w = .ok z w)
    (M n : Nat) (f : ByteArray → Option Value) (hm : a.eval m = .map (some M)) (h : SMap w M n f) (key : ByteArray) (hx : a.eval x = .string key) (hk : key.size ≤ maxLen) (v : Value) (hv : (f key).getD z = v)
    (hK : wpList Try.prog ops Q rest (a.put o.dst v) w) : wpList Try.prog ops Q (o :: rest) a w := by
  refine wpList_plain hg fun K' hK' => ?_
  have hrun := h.look ht (hz w) hk
  rw [hv] at hrun
  unfold Oper.wp
  simp [execOp, hop, hm, hx, hrun, Result.andThen]
  exact hK' _ _ hK
theorem wp_store (hg : o.guard = none) (m x v : Operand) (t : TypeId) (hop : o.op = Op.mapUpdate t m x v) (e : TypeId) (ht : Try.prog.underlying t = some (.map 9 e))
    (M n : Nat) (f : ByteArray → Option Value) (hm : a.eval m = .map (some M)) (h : SMap w M n f) (hn : n < maxLen) (key : ByteArray) (hx : a.eval x = .string key) (hk : key.size ≤ maxLen) (u : Value) (hv : a.eval v = u)
    (hK : ∀ w', Hid (SMap w' M (n + 1) (fun k => if k = key then some u else f k)) → w.grownBy w' (some M) → wpList Try.prog ops Q rest (a.put o.dst undef) w') : wpList Try.prog ops Q (o :: rest) a w := by
  refine wpList_plain hg fun K' hK' => ?_
  obtain ⟨w', hrun, h1, h2⟩ := h.push ht hn hk u
  unfold Oper.wp
  simp [execOp, hop, hm, hx, hv, hrun, Result.andThen]
  exact hK' _ _ (hK w' (Lib.hid h1) h2)
end
end Go.Proofs.Yteclclidibmajaa
