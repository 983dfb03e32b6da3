/-
  Contracts: what lex reaches of Go's library; isPath; the closure of directive.
  A map of the call's own with strings as keys (as XSm10, for a seat without values): what it holds, as a function of the key; asking and storing.
  The analysis of contexts of layer 16 as plain data: a node, a list, what Infer answers; the laws' plain side. No program is imported here.
  Definitions and calls of a template, as plain data: names, the first of a name, the checks; the sources of definitions in sequence. No program is imported here.
  The analysis of contexts of layer 16, further: escapers are no more than nodes, addresses do not count, a template of text only, the chapter's examples. No program is imported here.
-/
import Derived.Test.YtpcapmdfjmpdiaaGreatDoorZNpure
import Derived.Test.YtpcapmdfjmpdiaaGreatDoorZHp15
import Derived.Test.YtpcapmdfjmpdiaaGreatDoorZRegion2
import Derived.Lib.FieldsP
import Derived.Lib.DecodeN
import Derived.Maps.OwnSet
namespace Go.Proofs.YtpcapmdfjmpdiaaGreatDoor
open Go.RowKit Go.BigFrame
set_option linter.unusedVariables false
set_option linter.unusedSimpArgs false

/-- The number that 'find' gives. -/
def fnum (c : UInt8) (l : List UInt8) : Int := match find2 c l with | none => -1 | some i => (i : Int)
/-- strings.Index at '{{'. -/
theorem index_c (s : ByteArray) (w : World) (hT : MX w) (hs : s.size < 4294967281) :
    Calls Tryz.prog 52 #[.string s, .string ⟨#[123, 123]⟩] w fun e w' => e = .returned (.int .i64 (fnum 123 (toL s))) ∧ w' = w := by
  obtain ⟨_, m, hm⟩ := hT
  refine (Any.strings_Index Tryz.laysIX s ⟨#[123, 123]⟩ m w hs hm).mono ?_
  rintro e w' ⟨rfl, rfl⟩
  refine ⟨?_, rfl⟩
  have : fnum 123 (toL s) = Lib.index (toL s) [123, 123] := (index_two 123 (toL s)).symm
  rw [this]
  rfl
/-- strings.Cut at '}}'. -/
theorem cut_some {s : ByteArray} {i : Nat} (w : World) (hT : MX w) (hs : s.size < 4294967281) (hf : find2 125 (toL s) = some i) :
    Calls Tryz.prog 53 #[.string s, .string ⟨#[125, 125]⟩] w fun e w' => (∃ t, e = .returned (.tuple #[.string (ofL ((toL s).take i)), .string t, .bool true])) ∧ Bel w w' := by
  obtain ⟨_, m, hm⟩ := hT
  refine (Any.strings_Cut Tryz.laysCU s ⟨#[125, 125]⟩ m w hs hm).mono ?_
  rintro e w' ⟨rfl, n, rfl⟩
  have := cut_two 125 (toL s)
  rw [hf] at this
  refine ⟨?_, Bel.draw _ _⟩
  have e1 : Lib.cut s.data.toList (⟨#[125, 125]⟩ : ByteArray).data.toList = ((toL s).take i, (toL s).drop (i + 2), true) := this
  rw [e1]
  exact ⟨_, rfl⟩
theorem cut_none {s : ByteArray} (w : World) (hT : MX w) (hs : s.size < 4294967281) (hf : find2 125 (toL s) = none) :
    Calls Tryz.prog 53 #[.string s, .string ⟨#[125, 125]⟩] w fun e w' => (∃ t u, e = .returned (.tuple #[.string t, .string u, .bool false])) ∧ Bel w w' := by
  obtain ⟨_, m, hm⟩ := hT
  refine (Any.strings_Cut Tryz.laysCU s ⟨#[125, 125]⟩ m w hs hm).mono ?_
  rintro e w' ⟨rfl, n, rfl⟩
  have := cut_two 125 (toL s)
  rw [hf] at this
  refine ⟨?_, Bel.draw _ _⟩
  have e1 : Lib.cut s.data.toList (⟨#[125, 125]⟩ : ByteArray).data.toList = (toL s, [], false) := this
  rw [e1]
  exact ⟨_, _, rfl⟩
/-! ### Words by strings.FieldsFunc -/
theorem decodeN_space (n b0 b1 b2 b3 : Nat) (h : (Lib.decodeN n b0 b1 b2 b3).1 = 32) : b0 = 32 ∧ (Lib.decodeN n b0 b1 b2 b3).2 = 1 := by
  unfold Lib.decodeN at h ⊢
  repeat' split
  all_goals first | (simp_all; done) | (exfalso; simp_all; omega)
theorem decodeN_other (n b0 b1 b2 b3 : Nat) (h : (Lib.decodeN n b0 b1 b2 b3).1 ≠ 32) : b0 ≠ 32 := by
  rintro rfl
  simp [Lib.decodeN] at h
theorem conts (n b0 b1 b2 b3 : Nat) : (2 ≤ (Lib.decodeN n b0 b1 b2 b3).2 → 128 ≤ b1 ∧ 1 < n) ∧ (3 ≤ (Lib.decodeN n b0 b1 b2 b3).2 → 128 ≤ b2 ∧ 2 < n) ∧ (4 ≤ (Lib.decodeN n b0 b1 b2 b3).2 → 128 ≤ b3 ∧ 3 < n) ∧ (Lib.decodeN n b0 b1 b2 b3).2 ≤ 4 := by
  unfold Lib.decodeN
  repeat' split
  all_goals (dsimp only; omega)
def isSp (x : Nat) : Bool := x == 32
theorem spans_words (s : ByteArray) : ∀ (f pos : Nat) (st : Option Nat) (acc : List (Nat × Nat)) (cur : List UInt8), s.size ≤ pos + f → pos ≤ s.size → (match st with | none => cur = [] | some a => a < pos ∧ cur = ((toL s).take pos).drop a) →
    (Lib.closeSpans s (Lib.spansFromP isSp s f pos st acc)).map (fun x => toL (s.extract x.1 x.2)) = acc.map (fun x => toL (s.extract x.1 x.2)) ++ wl cur ((toL s).drop pos) := by
  have close : ∀ (pos : Nat) (st : Option Nat) (acc : List (Nat × Nat)) (cur : List UInt8), pos = s.size → (match st with | none => cur = [] | some a => a < pos ∧ cur = ((toL s).take pos).drop a) →
      (Lib.closeSpans s (acc, st)).map (fun x => toL (s.extract x.1 x.2)) = acc.map (fun x => toL (s.extract x.1 x.2)) ++ wl cur ((toL s).drop pos) := by
    intro pos st acc cur hp hst
    subst hp
    rw [List.drop_of_length_le (Nat.le_of_eq (toL_len s))]
    cases st with
    | none => subst hst; simp [Lib.closeSpans, wl]
    | some a =>
      obtain ⟨h1, rfl⟩ := hst
      have hne : ((toL s).take s.size).drop a ≠ [] := by
        intro h0
        have := congrArg List.length h0
        rw [List.length_drop, List.length_take, toL_len] at this
        simp at this; omega
      simp only [Lib.closeSpans, List.map_append, List.map_cons, List.map_nil, wl, if_neg hne]
      rw [toL_extract]
  intro f
  induction f with
  | zero => intro pos st acc cur h1 h2 hst; exact close pos st acc cur (by omega) hst
  | succ f ih =>
    intro pos st acc cur h1 h2 hst
    by_cases hlt : pos < s.size
    · have hN := Lib.decode_N s pos
      have hle : s.data.toList.length = s.size := toL_len s
      have hw := Lib.width_pos s pos
      have hc := conts (s.data.toList.length - pos) (s.data.toList.getD pos 0).toNat (s.data.toList.getD (pos + 1) 0).toNat (s.data.toList.getD (pos + 2) 0).toNat (s.data.toList.getD (pos + 3) 0).toNat
      have hsp := decodeN_space (s.data.toList.length - pos) (s.data.toList.getD pos 0).toNat (s.data.toList.getD (pos + 1) 0).toNat (s.data.toList.getD (pos + 2) 0).toNat (s.data.toList.getD (pos + 3) 0).toNat
      have hot := decodeN_other (s.data.toList.length - pos) (s.data.toList.getD pos 0).toNat (s.data.toList.getD (pos + 1) 0).toNat (s.data.toList.getD (pos + 2) 0).toNat (s.data.toList.getD (pos + 3) 0).toNat
      rw [← hN, hle] at hc
      rw [← hN] at hsp hot
      obtain ⟨c2, c3, c4, c5⟩ := hc
      have hpl : pos < (toL s).length := hlt
      have hfst : (toL s).drop pos = (toL s)[pos] :: (toL s).drop (pos + 1) := List.drop_eq_getElem_cons hpl
      have hb0 : s.data.toList.getD pos 0 = (toL s)[pos] := by
        rw [List.getD_eq_getElem?_getD, List.getElem?_eq_getElem (show pos < s.data.toList.length from hpl)]
        rfl
      unfold Lib.spansFromP
      rw [if_pos hlt]
      generalize Utf8.decode s pos = d at *
      obtain ⟨r, k⟩ := d
      dsimp only at *
      by_cases hr : r = 32
      · obtain ⟨h32, hk⟩ := hsp hr
        subst hk
        rw [hb0] at h32
        have h32' : (toL s)[pos] = 32 := UInt8.toNat_inj.1 h32
        have hp : isSp r = true := by rw [hr]; rfl
        rw [hp, hfst, h32', wl, if_pos rfl]
        simp only [if_true]
        cases st with
        | none =>
          dsimp only
          dsimp only at hst
          subst hst
          rw [if_pos rfl]
          exact ih (pos + 1) none acc [] (by omega) (by omega) rfl
        | some a =>
          dsimp only
          obtain ⟨h3, rfl⟩ := hst
          have hne : ((toL s).take pos).drop a ≠ [] := by
            intro h0
            have := congrArg List.length h0
            rw [List.length_drop, List.length_take, toL_len] at this
            simp at this; omega
          rw [if_neg hne]
          refine (ih (pos + 1) none (acc ++ [(a, pos)]) [] (by omega) (by omega) rfl).trans ?_
          simp [toL_extract]
      · have hp : isSp r = false := by simp [isSp, hr]
        rw [hp]
        simp only [Bool.false_eq_true, if_false]
        have hkn : pos + k ≤ s.size := by omega
        have hbytes : ∀ c ∈ ((toL s).drop pos).take k, c ≠ 32 := by
          intro c hcm hc32
          obtain ⟨j, hj, hjv⟩ := List.getElem_of_mem hcm
          rw [List.length_take, List.length_drop, toL_len] at hj
          rw [List.getElem_take, List.getElem_drop] at hjv
          have hgd : ∀ i, (hi : pos + i < (toL s).length) → s.data.toList.getD (pos + i) 0 = (toL s)[pos + i] := fun i hi => by
            rw [List.getD_eq_getElem?_getD, List.getElem?_eq_getElem (show pos + i < s.data.toList.length from hi)]; rfl
          have hj32 : (s.data.toList.getD (pos + j) 0).toNat = 32 := by rw [hgd j (by rw [toL_len]; omega), hjv, hc32]; rfl
          rcases (by omega : j = 0 ∨ j = 1 ∨ j = 2 ∨ j = 3) with rfl | rfl | rfl | rfl
          · exact hot hr hj32
          · have := (c2 (by omega)).1; omega
          · have := (c3 (by omega)).1; omega
          · have := (c4 (by omega)).1; omega
        have hsplit : (toL s).drop pos = ((toL s).drop pos).take k ++ (toL s).drop (pos + k) := by
          conv => lhs; rw [← List.take_append_drop k ((toL s).drop pos), List.drop_drop]
        have hcur : ∀ a, a ≤ pos → ((toL s).take pos).drop a ++ ((toL s).drop pos).take k = ((toL s).take (pos + k)).drop a := by
          intro a ha
          have e1 : (toL s).take (pos + k) = (toL s).take pos ++ ((toL s).drop pos).take k := by rw [List.take_add]
          rw [e1, List.drop_append_of_le_length (by rw [List.length_take, toL_len]; omega)]
        cases st with
        | none =>
          dsimp only
          dsimp only at hst
          subst hst
          rw [hsplit, wl_word hbytes, List.nil_append]
          refine ih (pos + k) (some pos) acc _ (by omega) hkn ⟨by omega, ?_⟩
          have e0 : ((toL s).take pos).drop pos = [] := List.drop_of_length_le (by rw [List.length_take]; omega)
          have e1 := hcur pos (Nat.le_refl _)
          rw [e0, List.nil_append] at e1
          exact e1
        | some a =>
          dsimp only
          obtain ⟨h3, rfl⟩ := hst
          rw [hsplit, wl_word hbytes, hcur a (by omega)]
          exact ih (pos + k) (some a) acc _ (by omega) hkn ⟨by omega, rfl⟩
    · have hps : pos = s.size := by omega
      rw [Lib.spansFromP_end _ _ _ _ _ _ hlt]
      exact close pos st acc cur hps hst
/-- The words of a string. -/
def wordsB (s : ByteArray) : List ByteArray := (words (toL s)).map ofL
theorem fields_words (s : ByteArray) : Lib.goFieldsP isSp s = wordsB s := by
  unfold wordsB
  refine L_parts ?_
  have := spans_words s s.size 0 none [] [] (by omega) (Nat.zero_le _) rfl
  rw [List.drop_zero] at this
  unfold Lib.goFieldsP Lib.spansOfP words
  rw [List.map_map]
  simpa [Function.comp_def] using this
theorem closure_c (w : World) (x : Nat) (hx : x ≤ 1114111) : Calls Tryz.prog 78 #[.int .i32 x] w fun e w' => e = .returned (.bool (isSp x)) ∧ w' = w := by
  have hb : decide ((x : Int) = 32) = isSp x := by unfold isSp; rw [Bool.eq_iff_iff]; simp; omega
  have hb2 : ((x : Int) == 32) = isSp x := by unfold isSp; rw [Bool.eq_iff_iff]; simp; omega
  go_enter Tryz.func78, Tryz.ntmps78
  go_wp2_with fail
  go_ret
  exact ⟨ret_bool (by first | rfl | exact hb | exact hb2), rfl⟩
theorem isPath_c (s : ByteArray) (w : World) (hs : 0 < s.size) :
    Calls Tryz.prog 80 #[.string s] w fun e w' => e = .returned (.bool (isP (toL s))) ∧ w' = w := by
  have h0 : ((s[0].toNat : Int) == 46) = isP (toL s) := by
    have e1 : toL s = s[0] :: (toL s).drop 1 := by
      have := List.drop_eq_getElem_cons (l := toL s) (i := 0) hs
      rw [List.drop_zero] at this
      exact this
    rw [e1]
    unfold isP
    rw [Bool.eq_iff_iff]
    simp only [beq_iff_eq]
    constructor
    · intro h; exact UInt8.toNat_inj.1 (by rw [show (46 : UInt8).toNat = 46 from rfl]; omega)
    · intro h; rw [h]; rfl
  generalize isP (toL s) = b at h0
  go_enter Tryz.func80, Tryz.ntmps80
  go_wp2_with fail
  go_ret
  exact ⟨ret_bool (by first | rfl | exact h0), rfl⟩
theorem refPath_c (s : ByteArray) (w : World) (hs : 0 < s.size) :
    Calls Tryz.prog 88 #[.string s] w fun e w' => e = .returned (.bool (isP (toL s))) ∧ w' = w := by
  have h0 : ((s[0].toNat : Int) == 46) = isP (toL s) := by
    have e1 : toL s = s[0] :: (toL s).drop 1 := by
      have := List.drop_eq_getElem_cons (l := toL s) (i := 0) hs
      rw [List.drop_zero] at this
      exact this
    rw [e1]
    unfold isP
    rw [Bool.eq_iff_iff]
    simp only [beq_iff_eq]
    constructor
    · intro h; exact UInt8.toNat_inj.1 (by rw [show (46 : UInt8).toNat = 46 from rfl]; omega)
    · intro h; rw [h]; rfl
  generalize isP (toL s) = b at h0
  go_enter Tryz.func88, Tryz.ntmps88
  go_wp2_with fail
  go_ret
  exact ⟨ret_bool (by first | rfl | exact h0), rfl⟩
end Go.Proofs.YtpcapmdfjmpdiaaGreatDoor

namespace Go.Proofs.YtpcapmdfjmpdiaaGreatDoor
open Go.RowKit Go.BigFrame Go.Maps Go.WideMaps
set_option linter.unusedVariables false

abbrev kL (k : ByteArray) : List UInt8 := k.data.toList
theorem kL_inj {a b : ByteArray} (h : kL a = kL b) : a = b := by
  cases a; cases b
  simp only [kL] at h
  rw [Array.toList_inj.1 h]
theorem keyLaw : Keyed Tryz.prog 9 := string_keyed Tryz.underlying9
/-- An element reads as itself. -/
def RVal (v : Value) : Option (DataW Value × List MemPlace) := some (.held v, [])
/-- Map M holds f; it has at most n entries. -/
def SMap (w : World) (M n : Nat) (f : ByteArray → Option Value) : Prop :=
  ∃ D : DataW Value, w.ownsMap Tryz.prog 9 RVal M n D ∧ ∀ key : ByteArray, (f key = none → has D (.string (kL key)) = false) ∧
    ∀ v, f key = some v → has D (.string (kL key)) = true ∧ ∀ z, D.atKey (.string (kL key)) z = .held v
theorem SMap.lt {w : World} {M n : Nat} {f : ByteArray → Option Value} (h : SMap w M n f) : M < w.heap.size := by
  obtain ⟨D, h1, _⟩ := h
  exact h1.lt
theorem SMap.made (w : World) : SMap (w.alloc (.map #[] 0)) w.heap.size 0 (fun _ => none) :=
  ⟨.map [], World.ownsMap_made _ _ _ _, fun key => ⟨fun _ => rfl, fun v hv => by cases hv⟩⟩
theorem SMap.mono {w : World} {M n m : Nat} {f : ByteArray → Option Value} (h : SMap w M n f) (hn : n ≤ m) : SMap w M m f := by
  obtain ⟨D, h1, h2⟩ := h
  exact ⟨D, h1.mono hn, h2⟩
theorem SMap.congr {w : World} {M n : Nat} {f g : ByteArray → Option Value} (h : SMap w M n f) (e : ∀ k, f k = g k) : SMap w M n g := by
  obtain rfl : f = g := funext e
  exact h
theorem SMap.only {w w' : World} {M n : Nat} {f : ByteArray → Option Value} {S : List Nat} (h : SMap w M n f) (ho : Only S w w') (hM : M ∉ S) : SMap w' M n f := by
  obtain ⟨D, h1, h2⟩ := h
  have hlt := h1.lt
  obtain ⟨es, clock, e, F, hs, hD⟩ := h1
  exact ⟨D, ⟨es, clock, (ho.block M hlt hM).trans e, F, hs, hD⟩, h2⟩
theorem SMap.bel {w w' : World} {M n : Nat} {f : ByteArray → Option Value} (h : SMap w M n f) (hb : Bel w w') : SMap w' M n f := h.only (Only.of_below (S := []) hb fun _ hk _ => hk) (by simp)
theorem SMap.alloc {w : World} {M n : Nat} {f : ByteArray → Option Value} (h : SMap w M n f) (o : Obj) : SMap (w.alloc o) M n f := h.bel (Bel.alloc _ _)
/-- A store. -/
theorem SMap.push {w : World} {M n : Nat} {f : ByteArray → Option Value} (h : SMap w M n f) {t e : TypeId} (ht : Tryz.prog.underlying t = some (.map 9 e)) (hn : n < maxLen) {key : ByteArray} (hk : key.size ≤ maxLen) (v : Value) :
    ∃ w', (Instr.mapUpdate t (.map (some M)) (.string key) v).run Tryz.prog w = .ok () w' ∧ SMap w' M (n + 1) (fun k => if k = key then some v else f k) ∧ w.grownBy w' (some M) := by
  obtain ⟨D, h1, h2⟩ := h
  have hkey : keyOf Tryz.prog 9 (.string key) = some (.string (kL key)) := keyOf_string_mk Tryz.underlying9 hk
  obtain ⟨w', hrun, hown, hg⟩ := h1.update keyLaw ht hn hkey (val := v) (show RVal _ = some (.held v, []) from rfl)
  refine ⟨w', hrun, ⟨_, hown, fun k => ?_⟩, hg⟩
  by_cases e : k = key
  · subst e
    simp only [if_true]
    refine ⟨fun h => (by cases h), fun u hu => ?_⟩
    injection hu with hu
    subst hu
    exact ⟨has_put_same h1.isMap (by simp [WideAt.IsKeyLit]) _, fun z => atKey_put_same h1.isMap (by simp [WideAt.IsKeyLit]) _ _⟩
  · have hne : (Lit.string (kL k)) ≠ Lit.string (kL key) := by
      intro e2
      injection e2 with e2
      exact e (kL_inj e2)
    simp only [if_neg e]
    refine ⟨fun h => (has_put_other hne _).trans ((h2 k).1 h), fun u hu => ?_⟩
    obtain ⟨a1, a2⟩ := (h2 k).2 u hu
    exact ⟨(has_put_other hne _).trans a1, fun z => (atKey_put_other hne _ _).trans (a2 z)⟩
set_option maxRecDepth 100000 in
/-- 'v, ok := m[k]'. -/
theorem SMap.look_ok {w : World} {M n : Nat} {f : ByteArray → Option Value} (h : SMap w M n f) {t e : TypeId} (ht : Tryz.prog.underlying t = some (.map 9 e)) {z : Value} (hz : (zeroValue e).run Tryz.prog w = .ok z w) {key : ByteArray} (hk : key.size ≤ maxLen) :
    (Instr.lookup t (.map (some M)) (.string key) true).run Tryz.prog w = .ok (.tuple #[(f key).getD z, .bool (f key).isSome]) w := by
  obtain ⟨D, h1, h2⟩ := h
  have hkey : keyOf Tryz.prog 9 (.string key) = some (.string (kL key)) := keyOf_string_mk Tryz.underlying9 hk
  obtain ⟨v, ps, hrun, hv⟩ := h1.look_ok keyLaw ht hz (show RVal _ = some (.held z, []) from rfl) hkey
  have hv' : DataW.held v = D.atKey (.string (kL key)) (.held z) := by
    unfold RVal at hv
    injection hv with hv
    exact congrArg (·.1) hv
  cases hf : f key with
  | none =>
    have a := (h2 key).1 hf
    rw [atKey_of_not_has a] at hv'
    injection hv' with hv'
    rw [hrun, a, hv']; rfl
  | some u =>
    obtain ⟨a, b⟩ := (h2 key).2 u hf
    rw [b] at hv'
    injection hv' with hv'
    rw [hrun, a, hv']; rfl
set_option maxRecDepth 100000 in
/-- 'm[k]'. -/
theorem SMap.look {w : World} {M n : Nat} {f : ByteArray → Option Value} (h : SMap w M n f) {t e : TypeId} (ht : Tryz.prog.underlying t = some (.map 9 e)) {z : Value} (hz : (zeroValue e).run Tryz.prog w = .ok z w) {key : ByteArray} (hk : key.size ≤ maxLen) :
    (Instr.lookup t (.map (some M)) (.string key) false).run Tryz.prog w = .ok ((f key).getD z) w := by
  obtain ⟨D, h1, h2⟩ := h
  have hkey : keyOf Tryz.prog 9 (.string key) = some (.string (kL key)) := keyOf_string_mk Tryz.underlying9 hk
  obtain ⟨v, ps, hrun, hv⟩ := h1.lookup keyLaw ht hz (show RVal _ = some (.held z, []) from rfl) hkey
  have hv' : DataW.held v = D.atKey (.string (kL key)) (.held z) := by
    unfold RVal at hv
    injection hv with hv
    exact congrArg (·.1) hv
  cases hf : f key with
  | none =>
    have a := (h2 key).1 hf
    rw [atKey_of_not_has a] at hv'
    injection hv' with hv'
    rw [hrun, hv']; rfl
  | some u =>
    obtain ⟨a, b⟩ := (h2 key).2 u hf
    rw [b] at hv'
    injection hv' with hv'
    rw [hrun, hv']; rfl
section
variable {w : World} {ops : Array Oper} {rest : List Oper} {o : Oper} {a : Act} {Q : Exit → Act → World → Prop}
theorem wp_look_ok (hg : o.guard = none) (m x : Operand) (t : TypeId) (hop : o.op = Op.lookup t m x true) (e : TypeId) (ht : Tryz.prog.underlying t = some (.map 9 e)) (z : Value) (hz : ∀ w, (zeroValue e).run Tryz.prog w = .ok z w)
    (M n : Nat) (f : ByteArray → Option Value) (hm : a.eval m = .map (some M)) (h : SMap w M n f) (key : ByteArray) (hx : a.eval x = .string key) (hk : key.size ≤ maxLen) (v : Value) (b : Bool) (hv : (f key).getD z = v) (hb : (f key).isSome = b)
    (hK : wpList Tryz.prog ops Q rest (a.put o.dst (.tuple #[v, .bool b])) w) : wpList Tryz.prog ops Q (o :: rest) a w := by
  refine wpList_plain hg fun K' hK' => ?_
  have hrun := h.look_ok ht (hz w) hk
  rw [hv, hb] at hrun
  unfold Oper.wp
  simp [execOp, hop, hm, hx, hrun, Result.andThen]
  exact hK' _ _ hK
theorem wp_look (hg : o.guard = none) (m x : Operand) (t : TypeId) (hop : o.op = Op.lookup t m x false) (e : TypeId) (ht : Tryz.prog.underlying t = some (.map 9 e)) (z : Value) (hz : ∀ w, (zeroValue e).run Tryz.prog w = .ok z w)
    (M n : Nat) (f : ByteArray → Option Value) (hm : a.eval m = .map (some M)) (h : SMap w M n f) (key : ByteArray) (hx : a.eval x = .string key) (hk : key.size ≤ maxLen) (v : Value) (hv : (f key).getD z = v)
    (hK : wpList Tryz.prog ops Q rest (a.put o.dst v) w) : wpList Tryz.prog ops Q (o :: rest) a w := by
  refine wpList_plain hg fun K' hK' => ?_
  have hrun := h.look ht (hz w) hk
  rw [hv] at hrun
  unfold Oper.wp
  simp [execOp, hop, hm, hx, hrun, Result.andThen]
  exact hK' _ _ hK
theorem wp_store (hg : o.guard = none) (m x v : Operand) (t : TypeId) (hop : o.op = Op.mapUpdate t m x v) (e : TypeId) (ht : Tryz.prog.underlying t = some (.map 9 e))
    (M n : Nat) (f : ByteArray → Option Value) (hm : a.eval m = .map (some M)) (h : SMap w M n f) (hn : n < maxLen) (key : ByteArray) (hx : a.eval x = .string key) (hk : key.size ≤ maxLen) (u : Value) (hv : a.eval v = u)
    (hK : ∀ w', Hid (SMap w' M (n + 1) (fun k => if k = key then some u else f k)) → w.grownBy w' (some M) → wpList Tryz.prog ops Q rest (a.put o.dst undef) w') : wpList Tryz.prog ops Q (o :: rest) a w := by
  refine wpList_plain hg fun K' hK' => ?_
  obtain ⟨w', hrun, h1, h2⟩ := h.push ht hn hk u
  unfold Oper.wp
  simp [execOp, hop, hm, hx, hv, hrun, Result.andThen]
  exact hK' _ _ (hK w' (Lib.hid h1) h2)
end
end Go.Proofs.YtpcapmdfjmpdiaaGreatDoor

namespace Go.Proofs.YtpcapmdfjmpdiaaGreatDoor
set_option linter.unusedVariables false
set_option linter.unusedSimpArgs false

/-- Are two states the same? -/
def eqH (s t : HS) : Bool := decide (s.c = t.c) && (decide (s.n = t.n) && (decide (s.a = t.a) && decide (s.p = t.p)))
theorem eqH_iff (s t : HS) : eqH s t = true ↔ s = t := by
  unfold eqH
  simp only [Bool.and_eq_true, decide_eq_true_eq]
  constructor
  · rintro ⟨h1, h2, h3, h4⟩; exact HS.ext_ h1 h2 h3 h4
  · rintro rfl; exact ⟨rfl, rfl, rfl, rfl⟩
theorem eqH_self (s : HS) : eqH s s = true := (eqH_iff s s).2 rfl
/-- What an analysis yields: a state and the escapers, or the offset and the error. -/
inductive IR where
  | ok (s : HS) (es : List Nat) : IR
  | no (a : Int) (e : Nat) : IR
namespace IR
/-- What goes on where there is no error. -/
def next (r : IR) (f : HS → List Nat → IR) : IR := match r with | ok s es => f s es | no a e => no a e
theorem next_ok (s : HS) (es : List Nat) (f : HS → List Nat → IR) : (ok s es).next f = f s es := rfl
theorem next_no (a : Int) (e : Nat) (f : HS → List Nat → IR) : (no a e).next f = no a e := rfl
end IR
mutual
def nodeI (s : HS) : NT → IR
  | .mk k a tx _ _ _ _ _ b _ _ l =>
    if k = 0 then .ok (runS s tx.data.toList) []
    else if k = 1 then (if (escS s).2 = true then .ok s [(escS s).1] else .no a 15)
    else if k = 2 then (listI s b).next fun s1 e1 => (listI s l).next fun s2 e2 => if eqH s1 s2 = true then .ok s1 (e1 ++ e2) else .no a 16
    else if k = 3 then (listI s b).next fun s1 e1 => if eqH s1 s = true then .ok s e1 else .no a 16
    else if k = 4 then (if eqH s (s0 0) = true then .ok s [] else .no a 15)
    else if k = 6 then (listI (s0 0) b).next fun s1 e1 => if eqH s1 (s0 0) = true then .ok s e1 else .no a 16
    else .ok s []
def listI (s : HS) : List NT → IR
  | [] => .ok s []
  | x :: l => (nodeI s x).next fun s1 e1 => (listI s1 l).next fun s2 e2 => .ok s2 (e1 ++ e2)
end
theorem nodeI_eq (s : HS) (t : NT) : nodeI s t =
    if t.k = 0 then .ok (runS s t.s.data.toList) []
    else if t.k = 1 then (if (escS s).2 = true then .ok s [(escS s).1] else .no t.a 15)
    else if t.k = 2 then (listI s t.b).next fun s1 e1 => (listI s t.l).next fun s2 e2 => if eqH s1 s2 = true then .ok s1 (e1 ++ e2) else .no t.a 16
    else if t.k = 3 then (listI s t.b).next fun s1 e1 => if eqH s1 s = true then .ok s e1 else .no t.a 16
    else if t.k = 4 then (if eqH s (s0 0) = true then .ok s [] else .no t.a 15)
    else if t.k = 6 then (listI (s0 0) t.b).next fun s1 e1 => if eqH s1 (s0 0) = true then .ok s e1 else .no t.a 16
    else .ok s [] := by
  cases t
  rw [nodeI]
  rfl
theorem listI_nil (s : HS) : listI s [] = .ok s [] := by rw [listI]
theorem listI_cons (s : HS) (x : NT) (l : List NT) : listI s (x :: l) = (nodeI s x).next fun s1 e1 => (listI s1 l).next fun s2 e2 => .ok s2 (e1 ++ e2) := by rw [listI]
theorem listI_append (l m : List NT) : ∀ s, listI s (l ++ m) = (listI s l).next fun s1 e1 => (listI s1 m).next fun s2 e2 => .ok s2 (e1 ++ e2) := by
  induction l with
  | nil =>
    intro s
    rw [List.nil_append, listI_nil, IR.next_ok]
    cases listI s m <;> rfl
  | cons x l ih =>
    intro s
    rw [List.cons_append, listI_cons, listI_cons]
    cases nodeI s x with
    | no a e => rfl
    | ok s1 e1 =>
      simp only [IR.next_ok]
      rw [ih s1]
      cases listI s1 l with
      | no a e => rfl
      | ok s2 e2 =>
        simp only [IR.next_ok]
        cases listI s2 m with
        | no a e => rfl
        | ok s3 e3 => simp only [IR.next_ok, List.append_assoc]
/-- One node more. -/
theorem listI_snoc (s : HS) (l : List NT) (x : NT) : listI s (l ++ [x]) = (listI s l).next fun s1 e1 => (nodeI s1 x).next fun s2 e2 => .ok s2 (e1 ++ e2) := by
  rw [listI_append]
  cases listI s l with
  | no a e => rfl
  | ok s1 e1 =>
    simp only [IR.next_ok]
    rw [listI_cons]
    cases nodeI s1 x with
    | no a e => rfl
    | ok s2 e2 => simp only [IR.next_ok, listI_nil, List.append_nil]
theorem listI_take {s : HS} {l : List NT} {i : Nat} {x : NT} (h : l[i]? = some x) : listI s (l.take (i + 1)) = (listI s (l.take i)).next fun s1 e1 => (nodeI s1 x).next fun s2 e2 => .ok s2 (e1 ++ e2) := by
  rw [List.take_add_one, h]
  exact listI_snoc s _ x
/-- Once failed, always failed. -/
theorem listI_stop {s : HS} {l : List NT} {i : Nat} {a : Int} {e : Nat} (h : listI s (l.take i) = .no a e) : listI s l = .no a e := by
  rw [← List.take_append_drop i l, listI_append, h]
  rfl
/-- What Infer answers: the escapers, or offset and error. -/
def inferI (l : List NT) : List Nat × Int × Nat :=
  match listI (s0 0) l with
  | .no a e => ([], a, e)
  | .ok s es => if eqH s (s0 0) = true then (es, 0, 0) else ([], (l.getLast?.map NT.a).getD 0, 16)
/-- All states that come up are reachable. -/
def IR.Good : IR → Prop | .ok s _ => Inv s | .no _ _ => True
theorem IR.Good.next {r : IR} {f : HS → List Nat → IR} (h : r.Good) (hf : ∀ s es, Inv s → (f s es).Good) : (r.next f).Good := by
  cases r with
  | no a e => exact trivial
  | ok s es => exact hf s es h
theorem listI_good_of (l : List NT) (h : ∀ x, x ∈ l → ∀ s, Inv s → (nodeI s x).Good) : ∀ s, Inv s → (listI s l).Good := by
  induction l with
  | nil => intro s hs; rw [listI_nil]; exact hs
  | cons x l ih =>
    intro s hs
    rw [listI_cons]
    exact (h x (by simp) s hs).next fun s1 e1 h1 => (ih (fun y hy => h y (by simp [hy])) s1 h1).next fun s2 e2 h2 => h2
theorem nodeI_good (t : NT) : ∀ s, Inv s → (nodeI s t).Good := by
  refine NT.ind (M := fun t => ∀ s, Inv s → (nodeI s t).Good) (fun t hb hl s hs => ?_) t
  rw [nodeI_eq]
  split
  · exact inv_run hs _
  split
  · split
    · exact hs
    · exact trivial
  split
  · exact (listI_good_of t.b hb s hs).next fun s1 e1 h1 => (listI_good_of t.l hl s hs).next fun s2 e2 h2 => by
      split
      · exact h1
      · exact trivial
  split
  · exact (listI_good_of t.b hb s hs).next fun s1 e1 h1 => by
      split
      · exact hs
      · exact trivial
  split
  · split
    · exact hs
    · exact trivial
  split
  · exact (listI_good_of t.b hb (s0 0) Inv.init).next fun s1 e1 h1 => by
      split
      · exact hs
      · exact trivial
  · exact hs
theorem listI_good (l : List NT) (s : HS) (hs : Inv s) : (listI s l).Good := listI_good_of l (fun x _ => nodeI_good x) s hs
end Go.Proofs.YtpcapmdfjmpdiaaGreatDoor

namespace Go.Proofs.YtpcapmdfjmpdiaaGreatDoor
open NT
set_option linter.unusedVariables false
set_option linter.unusedSimpArgs false

/-! ### Definitions and calls -/
def isDef (t : NT) : Bool := t.k == 6
def defsN (l : List NT) : List NT := l.filter isDef
def mainN (l : List NT) : List NT := l.filter fun t => !isDef t
def namesN (l : List NT) : List ByteArray := (defsN l).map NT.s
mutual
def callN : NT → List NT
  | .mk k a s p h e A c b B d l => (if k = 4 then [.mk k a s p h e A c b B d l] else []) ++ (callNs b ++ callNs l)
def callNs : List NT → List NT
  | [] => []
  | x :: r => callN x ++ callNs r
end
theorem callN_eq (t : NT) : callN t = (if t.k = 4 then [t] else []) ++ (callNs t.b ++ callNs t.l) := by cases t; rw [callN]; rfl
theorem callNs_nil : callNs [] = [] := by simp [callNs]
theorem callNs_cons (x : NT) (r : List NT) : callNs (x :: r) = callN x ++ callNs r := by simp [callNs]
theorem callNs_append : ∀ l m : List NT, callNs (l ++ m) = callNs l ++ callNs m
  | [], m => by simp [callNs_nil]
  | x :: l, m => by rw [List.cons_append, callNs_cons, callNs_cons, callNs_append l m, List.append_assoc]
def isDefOf (n : ByteArray) (t : NT) : Bool := t.k == 6 && decide (t.s = n)
def findN (l : List NT) (n : ByteArray) : Option NT := l.find? (isDefOf n)
theorem mem_names {l : List NT} {n : ByteArray} : n ∈ namesN l ↔ ∃ t, t ∈ l ∧ t.k = 6 ∧ t.s = n := by
  unfold namesN defsN isDef
  simp only [List.mem_map, List.mem_filter, beq_iff_eq]
  constructor
  · rintro ⟨t, ⟨h1, h2⟩, h3⟩; exact ⟨t, h1, h2, h3⟩
  · rintro ⟨t, h1, h2, h3⟩; exact ⟨t, ⟨h1, h2⟩, h3⟩
def hasN (l : List ByteArray) (n : ByteArray) : Bool := l.any fun m => decide (m = n)
theorem hasN_iff {l : List ByteArray} {n : ByteArray} : hasN l n = true ↔ n ∈ l := by
  unfold hasN
  rw [List.any_eq_true]
  constructor
  · rintro ⟨m, hm, h⟩; rw [← of_decide_eq_true h]; exact hm
  · intro h; exact ⟨n, h, by simp⟩
/-- The first definition with a fault: the names before it are seen. -/
def dupN : List ByteArray → List NT → Option (Int × Nat)
  | _, [] => none
  | seen, t :: r => if hasN seen t.s = true then some (t.a, 12) else if seen.length = 64 then some (t.a, 14) else dupN (seen ++ [t.s]) r
def badCall (l : List NT) (t : NT) : Bool := !hasN (namesN l) t.s
/-- What Check answers: the offset, the error's number. -/
def checkN (l : List NT) : Int × Nat :=
  match dupN [] (defsN l) with
  | some r => r
  | none => match (callNs l).find? (badCall l) with
    | some t => (t.a, 11)
    | none => (0, 0)
theorem dupN_none : ∀ (r : List NT) (seen : List ByteArray), dupN seen r = none → seen.Nodup → (seen ++ r.map NT.s).Nodup
  | [], seen, _, hn => by simpa using hn
  | t :: r, seen, h, hn => by
    rw [dupN] at h
    by_cases h1 : hasN seen t.s = true
    · rw [if_pos h1] at h; cases h
    rw [if_neg h1] at h
    split at h
    · cases h
    have hn2 : (seen ++ [t.s]).Nodup := by
      rw [List.nodup_append]
      exact ⟨hn, by simp, by intro a ha b hb; simp at hb; subst hb; intro e; subst e; exact h1 (hasN_iff.2 ha)⟩
    have := dupN_none r _ h hn2
    rw [List.append_assoc] at this
    exact this
/-- Check says yes: the names are different, every call has a definition. -/
theorem checkN_ok {l : List NT} {a : Int} (h : checkN l = (a, 0)) : (namesN l).Nodup ∧ ∀ t, t ∈ callNs l → t.s ∈ namesN l := by
  unfold checkN at h
  cases hd : dupN [] (defsN l) with
  | some r =>
    rw [hd] at h
    exfalso
    have key : ∀ (q : List NT) (seen : List ByteArray) (b : Int), dupN seen q ≠ some (b, 0) := by
      intro q
      induction q with
      | nil => intro seen b e; cases e
      | cons t q ih =>
        intro seen b e
        unfold dupN at e
        split at e
        · cases e
        split at e
        · cases e
        exact ih _ _ e
    dsimp only at h
    rw [h] at hd
    exact key _ _ _ hd
  | none =>
    rw [hd] at h
    dsimp only at h
    have hn := dupN_none _ _ hd (by simp)
    rw [List.nil_append] at hn
    refine ⟨hn, fun t ht => ?_⟩
    cases hf : (callNs l).find? (badCall l) with
    | some t' => rw [hf] at h; cases h
    | none =>
      have := List.find?_eq_none.1 hf t ht
      unfold badCall at this
      rw [Bool.not_eq_true, Bool.not_eq_false'] at this
      exact hasN_iff.1 this
/-! ### What is reachable -/
/-- A name that is called by a main node, or in the body of the first definition of such a name; it has a definition. -/
inductive Rch (l : List NT) : ByteArray → Prop
  | main (c : NT) (h1 : c ∈ callNs (mainN l)) (h2 : c.s ∈ namesN l) : Rch l c.s
  | step (n : ByteArray) (d c : NT) (h0 : Rch l n) (h1 : findN l n = some d) (h2 : c ∈ callNs d.b) (h3 : c.s ∈ namesN l) : Rch l c.s
theorem Rch.names {l : List NT} {n : ByteArray} (h : Rch l n) : n ∈ namesN l := by cases h <;> assumption
/-! ### Sources of definitions -/
/-- A directive: where it ends, which token. -/
structure DirOf (D : List UInt8) (t : Tok) : Prop where
  len : 4 ≤ D.length
  start : find2 123 D = some 0
  stop : find2 125 (D.drop 2) = some (D.length - 4)
  tok : dirOf (words ((D.drop 2).take (D.length - 4))) = .ok t
theorem DirOf.lx {D : List UInt8} {t : Tok} (h : DirOf D t) {r : List UInt8} {a : Nat} {ts : List Tok} (hr : Lx r (a + D.length) ts) : Lx (D ++ r) a ({ t with a := a } :: ts) := by
  have hl := h.len
  refine Lx.dir (D ++ r) a (D.length - 4) t ts (find2_append_some h.start r) ?_ ?_ ?_
  · rw [List.drop_append_of_le_length (by omega)]
    exact find2_append_some h.stop r
  · rw [List.drop_append_of_le_length (by omega), List.take_append_of_le_length (by simp; omega)]
    exact h.tok
  · rw [show D.length - 4 + 4 = D.length by omega, List.drop_left]
    exact hr
def dirB (D : List UInt8) (t : Tok) : Bool := decide (4 ≤ D.length) && (decide (find2 123 D = some 0) && (decide (find2 125 (D.drop 2) = some (D.length - 4)) && (match dirOf (words ((D.drop 2).take (D.length - 4))) with | .ok u => decide (u = t) | .error _ => false)))
theorem dirB_of {D : List UInt8} {t : Tok} (h : dirB D t = true) : DirOf D t := by
  unfold dirB at h
  simp only [Bool.and_eq_true, decide_eq_true_eq] at h
  obtain ⟨h1, h2, h3, h4⟩ := h
  refine ⟨h1, h2, h3, ?_⟩
  split at h4
  · rename_i u hu
    rw [hu, of_decide_eq_true h4]
  · cases h4
theorem end_dir : DirOf enL ⟨8, 0, [], [], false⟩ := dirB_of (by decide +kernel)
end Go.Proofs.YtpcapmdfjmpdiaaGreatDoor

namespace Go.Proofs.YtpcapmdfjmpdiaaGreatDoor
open Go.RowKit Go.BigFrame NT
set_option linter.unusedVariables false
set_option linter.unusedSimpArgs false

/-! ### A row's first part and the rest -/
theorem NT.At.first {w : World} {Q : Nat → Prop} {A : Option Addr} {c : Nat} {l : List NT} (h : At w Q A c l) (k : Nat) : At w Q A c (l.take k) := by
  obtain ⟨⟨h1, h2, h3⟩, h4⟩ := h
  refine ⟨⟨by rw [List.length_take]; omega, h2, by rw [List.length_take]; omega⟩, fun h0 => ?_⟩
  rw [List.length_take] at h0
  obtain ⟨g, o, e, hq, hc⟩ := h4 (by omega)
  refine ⟨g, o, e, hq, fun i x hx => ?_⟩
  rw [List.getElem?_take] at hx
  split at hx
  · exact hc i x hx
  · cases hx
theorem NT.Row.first {w : World} {Q : Nat → Prop} {A : Option Addr} {c : Nat} {l : List NT} (h : Row w Q A c l) (k : Nat) : Row w Q A c (l.take k) := ⟨NT.At.first h.1 k, fun x hx => h.2 x (List.mem_of_mem_take hx)⟩
theorem NT.Row.cut {w : World} {Q : Nat → Prop} {A : Option Addr} {c : Nat} {l : List NT} (h : Row w Q A c l) (k : Nat) (hk : k ≤ l.length) : Row w Q (cutA c k 8 A) (c - k) (l.drop k) := by
  obtain ⟨⟨⟨h1, h2, h3⟩, h4⟩, h5⟩ := h
  refine ⟨⟨⟨by rw [List.length_drop]; omega, by omega, by rw [List.length_drop]; omega⟩, fun h0 => ?_⟩, fun x hx => h5 x (List.mem_of_mem_drop hx)⟩
  rw [List.length_drop] at h0
  obtain ⟨g, o, e, hq, hc⟩ := h4 (by omega)
  subst e
  refine ⟨g, o + k * 8, by unfold cutA; rw [if_neg (by omega)]; simp [add_at], hq, fun i x hx => ?_⟩
  rw [List.getElem?_drop] at hx
  have := hc (k + i) x hx
  rwa [Nat.add_mul, ← Nat.add_assoc] at this
/-! ### No more escapers than nodes -/
def IR.Len (n : Nat) : IR → Prop | .ok _ es => es.length ≤ n | .no _ _ => True
theorem IR.Len.next {n m : Nat} {r : IR} {f : HS → List Nat → IR} (h : r.Len n) (hf : ∀ s es, es.length ≤ n → (f s es).Len m) : (r.next f).Len m := by
  cases r with
  | no a e => exact trivial
  | ok s es => exact hf s es h
theorem listI_len_of (l : List NT) (h : ∀ x, x ∈ l → ∀ s, (nodeI s x).Len x.tot) : ∀ s, (listI s l).Len (tots l) := by
  induction l with
  | nil => intro s; rw [listI_nil]; exact Nat.zero_le _
  | cons x l ih =>
    intro s
    rw [listI_cons, tots_cons]
    exact (h x (by simp) s).next fun s1 e1 h1 => (ih (fun y hy => h y (by simp [hy])) s1).next fun s2 e2 h2 => by
      show (e1 ++ e2).length ≤ _
      rw [List.length_append]; omega
theorem nodeI_len (t : NT) : ∀ s, (nodeI s t).Len t.tot := by
  refine NT.ind (M := fun t => ∀ s, (nodeI s t).Len t.tot) (fun t hb hl s => ?_) t
  rw [nodeI_eq, tot_eq]
  split
  · exact Nat.zero_le _
  split
  · split
    · show 1 ≤ _; omega
    · exact trivial
  split
  · exact (listI_len_of t.b hb s).next fun s1 e1 h1 => (listI_len_of t.l hl s).next fun s2 e2 h2 => by
      split
      · show (e1 ++ e2).length ≤ _
        rw [List.length_append]; omega
      · exact trivial
  split
  · exact (listI_len_of t.b hb s).next fun s1 e1 h1 => by
      split
      · show e1.length ≤ _; omega
      · exact trivial
  split
  · split
    · exact Nat.zero_le _
    · exact trivial
  split
  · exact (listI_len_of t.b hb (s0 0)).next fun s1 e1 h1 => by
      split
      · show e1.length ≤ _; omega
      · exact trivial
  · exact Nat.zero_le _
theorem listI_len (l : List NT) (s : HS) : (listI s l).Len (tots l) := listI_len_of l (fun x _ => nodeI_len x) s
theorem listI_le {l : List NT} {s t : HS} {es : List Nat} (h : listI s l = .ok t es) : es.length ≤ tots l := by have := listI_len l s; rw [h] at this; exact this
/-! ### Addresses do not count -/
theorem listI_ers_of (l : List NT) (h : ∀ x, x ∈ l → ∀ s, nodeI s x.er = nodeI s x) : ∀ s, listI s (ers l) = listI s l := by
  induction l with
  | nil => intro s; rw [show ers [] = [] from by simp [ers]]
  | cons x l ih =>
    intro s
    rw [show ers (x :: l) = x.er :: ers l from by simp [ers], listI_cons, listI_cons, h x (by simp) s]
    congr 1
    funext s1 e1
    rw [ih (fun y hy => h y (by simp [hy])) s1]
theorem nodeI_er (t : NT) : ∀ s, nodeI s t.er = nodeI s t := by
  refine NT.ind (M := fun t => ∀ s, nodeI s t.er = nodeI s t) (fun t hb hl s => ?_) t
  rw [nodeI_eq, nodeI_eq, er_k, er_a, er_s, er_b, er_l, listI_ers_of t.b hb, listI_ers_of t.b hb]
  simp only [listI_ers_of t.l hl]
theorem listI_ers (l : List NT) (s : HS) : listI s (ers l) = listI s l := listI_ers_of l (fun x _ => nodeI_er x) s
theorem last_ers (l : List NT) : (ers l).getLast?.map NT.a = l.getLast?.map NT.a := by
  rw [ers_map, List.getLast?_map, Option.map_map]
  congr 1
  funext x
  exact er_a x
theorem inferI_ers (l : List NT) : inferI (ers l) = inferI l := by
  unfold inferI
  rw [listI_ers, last_ers]
/-! ### A template of text only -/
/-! ### The chapter's examples -/
theorem lx_txt16 {l : List UInt8} {s r : List UInt8} {a k : Nat} {ts : List Tok} (hl : l = s ++ r) (h : find2 123 (s ++ r) = some (k + 1)) (hs : s.length = k + 1) (hr : Lx r (a + (k + 1)) ts) : Lx l a (⟨0, a, s, [], false⟩ :: ts) := by
  subst hl
  have h1 : (s ++ r).drop (k + 1) = r := by rw [← hs, List.drop_left]
  have h2 : (s ++ r).take (k + 1) = s := by rw [← hs, List.take_left]
  have := Lx.text (s ++ r) a k ts h (by rw [h1]; exact hr)
  rw [h2] at this
  exact this
theorem nodeI_text {s t : HS} {x : NT} (hk : x.k = 0) (h : runS s x.s.data.toList = t) : nodeI s x = .ok t [] := by rw [nodeI_eq, if_pos hk, h]
end Go.Proofs.YtpcapmdfjmpdiaaGreatDoor
