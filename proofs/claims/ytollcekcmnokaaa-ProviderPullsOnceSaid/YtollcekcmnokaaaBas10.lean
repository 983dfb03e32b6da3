/-
  What the texts of values need of Split, Fld, Fld3, RefSplit, Look, Look2, RefLook and LookLaw at a program that does not reach value.Lookup: memory that only grows, lists of strings, a field by its key.
-/
import Derived.Test.YtollcekcmnokaaaName
import Derived.Test.YtollcekcmnokaaaParts
import Derived.Test.YtollcekcmnokaaaCuts
import Derived.Test.YtollcekcmnokaaaShelf
import Derived.Test.YtollcekcmnokaaaRegion2
import Derived.Shelf.Slices.Empties2
import Derived.Deep.QuietTactic
import Derived.BigQuiet
import Derived.Outline
namespace Go.Proofs.Ytollcekcmnokaaa
open Go.RowKit Go.BigFrame
set_option linter.unusedVariables false
set_option linter.unusedSimpArgs false
attribute [local go_sem ↓] sliced_cut run_min2 run_max2
attribute [local go_sem] cutA_zero

/-! ### Memory that only grows -/
/-- Nothing that was there has turned. -/
def Bel (w w' : World) : Prop := Below w.heap.size w w'
theorem Bel.refl (w : World) : Bel w w := Below.refl _ _
theorem Bel.trans {w w1 w2 : World} (h1 : Bel w w1) (h2 : Bel w1 w2) : Bel w w2 := Below.trans h1 (Below.mono h2 (Below.size h1))
theorem Bel.size {w w' : World} (h : Bel w w') : w.heap.size ≤ w'.heap.size := Below.size h
theorem Bel.alloc (w : World) (o : Obj) : Bel w (w.alloc o) := (Below.refl _ _).alloc (Nat.le_refl _) _
theorem Bel.cell {w w' : World} (h : Bel w w') {b o : Nat} (hb : b < w.heap.size) : w'.cell? ⟨b, o, none⟩ = w.cell? ⟨b, o, none⟩ := Below.cell (p := ⟨b, o, none⟩) h hb
theorem Bel.draw (w : World) (n : Nat) : Bel w (w.drewN n) := by
  induction n with
  | zero => exact Below.refl _ _
  | succ n ih => exact ih.drew
theorem VT.In.bel {w w' : World} {t : VT} (h : t.In w (· < w.heap.size)) (hb : Bel w w') : t.In w' (· < w'.heap.size) :=
  h.same (fun g hg => Nat.lt_of_lt_of_le hg hb.size) fun g p hg => hb.cell hg
/-- The strings l lie behind the address A, below block B. -/
def Strs (w : World) (A : Option Addr) (l : List ByteArray) : Prop :=
  l = [] ∨ ∃ g o, A = some ⟨g, o, none⟩ ∧ g < w.heap.size ∧ ∀ i, i < l.length → w.cell? ⟨g, o + i, none⟩ = some (.string (l.getD i ByteArray.empty))
theorem Strs.bel {w w' : World} {A : Option Addr} {l : List ByteArray} (h : Strs w A l) (hb : Bel w w') : Strs w' A l := by
  rcases h with h | ⟨g, o, h1, h2, h3⟩
  · exact .inl h
  · exact .inr ⟨g, o, h1, Nat.lt_of_lt_of_le h2 hb.size, fun i hi => (hb.cell h2).trans (h3 i hi)⟩
/-- slices.Equal of two lists of strings. -/
theorem equalS_c {w : World} {A B : Option Addr} {l m : List ByteArray} (hl : Strs w A l) (hm : Strs w B m) (c d : Nat) (h1 : l.length ≤ 4611686018427387904) (h2 : m.length ≤ 4611686018427387904) :
    Calls Try.prog 14 #[.slice A l.length c, .slice B m.length d] w fun e w' => e = .returned (.bool (decide (l = m))) ∧ Bel w w' := by
  by_cases hn : l.length = m.length
  · by_cases h0 : l.length = 0
    · have e1 : l = [] := List.length_eq_zero_iff.1 h0
      have e2 : m = [] := List.length_eq_zero_iff.1 (hn ▸ h0)
      subst e1 e2
      refine (Any.slices_Equal_string_empty Try.laysEQ A B c 0 d w (by omega)).mono ?_
      rintro e w' ⟨rfl, rfl⟩
      exact ⟨rfl, Bel.refl _⟩
    · rcases hl with hl | ⟨g, o, rfl, _, hg⟩
      · subst hl; exact absurd rfl h0
      rcases hm with hm | ⟨g', o', rfl, _, hg'⟩
      · subst hm; exact absurd (hn ▸ rfl) h0
      refine (Any.slices_Equal_string Try.laysEQ g o l.length c g' o' m.length d l m w (Nat.le_refl _) (Nat.le_refl _) (by omega) (by omega) hg hg').mono ?_
      rintro e w' ⟨rfl, q, rfl⟩
      refine ⟨?_, Bel.draw _ _⟩
      rw [List.take_length, List.take_length]
  · refine (Any.slices_Equal_string_lens Try.laysEQ A B l.length c m.length d w hn).mono ?_
    rintro e w' ⟨rfl, rfl⟩
    refine ⟨?_, Bel.refl _⟩
    rw [decide_eq_false (fun e => hn (by rw [e]))]

namespace VT
def zero : VT := .mk 0 ByteArray.empty 0 false none 0 [] none 0 [] []
/-- The first field with a key. -/
def findI (t : VT) (nm : ByteArray) : Option Nat := (List.range t.vs.length).find? (fun i => decide (t.key i = nm))
def fld (t : VT) (nm : ByteArray) : Except Int VT :=
  if t.k ≠ 4 then .error 18 else match t.findI nm with
    | some i => .ok (t.value i)
    | none => .error 17
def look (t : VT) (l : List ByteArray) : Except Int VT := l.foldlM fld t
theorem look_nil (t : VT) : look t [] = .ok t := rfl
theorem look_cons (t : VT) (nm : ByteArray) (l : List ByteArray) : look t (nm :: l) = (match fld t nm with | .ok u => look u l | .error e => .error e) := by
  unfold look
  rw [List.foldlM_cons]
  cases fld t nm <;> rfl
theorem look_append (t : VT) (l m : List ByteArray) : look t (l ++ m) = (match look t l with | .ok u => look u m | .error e => .error e) := by
  unfold look
  rw [List.foldlM_append]
  cases List.foldlM fld t l <;> rfl
theorem findI_none {t : VT} {nm : ByteArray} (h : ∀ i, i < t.vs.length → t.key i ≠ nm) : t.findI nm = none := by
  unfold findI
  rw [List.find?_eq_none]
  intro i hi
  simpa using h i (by simpa using hi)
theorem findI_some {t : VT} {nm : ByteArray} {i : Nat} (hi : i < t.vs.length) (h : t.key i = nm) (hb : ∀ j, j < i → t.key j ≠ nm) : t.findI nm = some i := by
  unfold findI
  rw [List.find?_range_eq_some]
  exact ⟨by simpa using h, by simpa using hi, fun j hj => by simpa using hb j hj⟩
theorem In.item {w : World} {Q : Nat → Prop} {t : VT} (h : t.In w Q) {i : Nat} (hi : i < t.xs.length) : (t.item i).In w Q := by
  cases h with
  | mk _ _ _ _ _ _ _ _ _ hx _ _ => exact hx _ (item_mem hi)
theorem In.value {w : World} {Q : Nat → Prop} {t : VT} (h : t.In w Q) {i : Nat} (hi : i < t.vs.length) : (t.value i).In w Q := by
  cases h with
  | mk _ _ _ _ _ _ _ _ _ _ hv _ => exact hv _ (value_mem hi)
theorem In.fld {w : World} {Q : Nat → Prop} {t u : VT} (h : t.In w Q) {nm : ByteArray} (hf : t.fld nm = .ok u) : u.In w Q := by
  unfold VT.fld at hf
  split at hf
  · cases hf
  · split at hf
    · rename_i i hi
      injection hf with hf
      subst hf
      unfold findI at hi
      have := List.mem_of_find?_eq_some hi
      exact h.value (by simpa using this)
    · cases hf
theorem In.look {w : World} {Q : Nat → Prop} : ∀ {l : List ByteArray} {t u : VT}, t.In w Q → t.look l = .ok u → u.In w Q := by
  intro l
  induction l with
  | nil => intro t u h hl; rw [look_nil] at hl; injection hl with hl; subst hl; exact h
  | cons nm l ih =>
    intro t u h hl
    rw [look_cons] at hl
    cases hf : t.fld nm with
    | ok v => rw [hf] at hl; exact ih (h.fld hf) hl
    | error e => rw [hf] at hl; cases hl
/-- Where the fields lie. -/
theorem In.fields {w : World} {Q : Nat → Prop} {t : VT} (h : t.In w Q) (h0 : 0 < t.vs.length) :
    ∃ g o, t.F = some ⟨g, o, none⟩ ∧ Q g ∧ ∀ i, i < t.vs.length → w.cell? ⟨g, o + i * 7, none⟩ = some (.string (t.key i)) ∧ (t.value i).Cells w g (o + i * 7 + 1) := by
  cases h with
  | mk _ _ _ _ _ _ hkl _ hF _ _ _ =>
    obtain ⟨g, o, e, hg, hi⟩ := hF h0
    exact ⟨g, o, e, hg, fun i hl => hi i _ _ (key_at (by omega)) (value_at hl)⟩
theorem In.items {w : World} {Q : Nat → Prop} {t : VT} (h : t.In w Q) (h0 : 0 < t.xs.length) :
    ∃ g o, t.A = some ⟨g, o, none⟩ ∧ Q g ∧ ∀ i, i < t.xs.length → (t.item i).Cells w g (o + i * 6) := by
  cases h with
  | mk _ _ _ _ _ _ _ hA _ _ _ _ =>
    obtain ⟨g, o, e, hg, hi⟩ := hA h0
    exact ⟨g, o, e, hg, fun i hl => hi i _ (item_at hl)⟩
theorem In.bounds {w : World} {Q : Nat → Prop} {t : VT} (h : t.In w Q) : (-9223372036854775808 ≤ t.k ∧ t.k ≤ 9223372036854775807) ∧ (-9223372036854775808 ≤ t.n ∧ t.n ≤ 9223372036854775807) ∧ t.s.size ≤ 140737488351232 ∧
    t.xs.length ≤ t.c ∧ t.c ≤ 9223372036854775807 ∧ t.vs.length ≤ t.d ∧ t.d ≤ 9223372036854775807 ∧ t.ks.length = t.vs.length := by
  cases h with
  | mk _ hk hn hs hc hd hkl _ _ _ _ _ =>
    unfold maxLen at hc hd
    unfold reachBytes at hs
    exact ⟨hk, hn, hs, hc.1, hc.2.1, hd.1, hd.2.1, hkl⟩
theorem In.lens {w : World} {Q : Nat → Prop} {t : VT} (h : t.In w Q) : t.xs.length ≤ 140737488351232 ∧ t.vs.length ≤ 140737488351232 := by
  cases h with
  | mk _ _ _ _ hc hd _ _ _ _ _ _ =>
    unfold reachBytes at hc hd
    exact ⟨by omega, by omega⟩
theorem In.bytes {w : World} {Q : Nat → Prop} {t : VT} (h : t.In w Q) : t.xs.length * 88 ≤ 140737488351232 ∧ t.vs.length * 104 ≤ 140737488351232 := by
  cases h with
  | mk _ _ _ _ hc hd _ _ _ _ _ _ =>
    unfold reachBytes at hc hd
    exact ⟨hc.2.2, hd.2.2⟩
theorem In.keys {w : World} {Q : Nat → Prop} {t : VT} (h : t.In w Q) {i : Nat} (hi : i < t.vs.length) : (t.key i).size ≤ 140737488351232 := by
  cases h with
  | mk _ _ _ _ _ _ hkl _ _ _ _ hks =>
    have := hks (t.key i) (by
      unfold key
      rw [List.getD_eq_getElem?_getD, List.getElem?_eq_getElem (by omega)]
      exact List.getElem_mem _)
    unfold reachBytes at this
    exact this
end VT

theorem toList_beq (a b : ByteArray) : (a.toList == b.toList) = decide (a = b) := by
  rw [ByteArray.toList_eq, ByteArray.toList_eq, Bool.eq_iff_iff, beq_iff_eq, decide_eq_true_iff]
  exact ⟨fun h => toL_inj h, fun h => by rw [h]⟩

theorem VT.val_eq (t : VT) : t.val = .agg #[.int .i64 t.k, .string t.s, .int .i64 t.n, .bool t.b, .slice t.A t.xs.length t.c, .slice t.F t.vs.length t.d] := rfl
theorem VT.zero_val : VT.zero.val = .agg #[.int .i64 0, .string ByteArray.empty, .int .i64 0, .bool false, .slice none 0 0, .slice none 0 0] := rfl
/-- What Field gives. -/
def FldPost (t : VT) (nm : ByteArray) (w : World) (e : Ending) (w' : World) : Prop :=
  Bel w w' ∧ match t.fld nm with
    | .ok u => e = .returned (.tuple #[u.val, .int .i64 0])
    | .error c => e = .returned (.tuple #[VT.zero.val, .int .i64 c])
theorem fld_kind {t : VT} {nm : ByteArray} (h : t.k ≠ 4) : t.fld nm = .error 18 := by unfold VT.fld; rw [if_pos h]
theorem fld_miss {t : VT} {nm : ByteArray} (h : t.k = 4) (hf : t.findI nm = none) : t.fld nm = .error 17 := by unfold VT.fld; rw [if_neg (by simpa using h), hf]
theorem fld_hit {t : VT} {nm : ByteArray} (h : t.k = 4) {i : Nat} (hf : t.findI nm = some i) : t.fld nm = .ok (t.value i) := by unfold VT.fld; rw [if_neg (by simpa using h), hf]
theorem fldPost_err {t : VT} {nm : ByteArray} {w w' : World} {e : Ending} {c : Int} (hb : Bel w w') (h : t.fld nm = .error c) (he : e = .returned (.tuple #[VT.zero.val, .int .i64 c])) : FldPost t nm w e w' := by
  unfold FldPost; rw [h]; exact ⟨hb, he⟩
theorem fldPost_ok {t u : VT} {nm : ByteArray} {w w' : World} {e : Ending} (hb : Bel w w') (h : t.fld nm = .ok u) (he : e = .returned (.tuple #[u.val, .int .i64 0])) : FldPost t nm w e w' := by
  unfold FldPost; rw [h]; exact ⟨hb, he⟩
theorem bel_trans_of {w w1 : World} (h : Below w.heap.size w w1) : Bel w w1 := h

set_option maxHeartbeats 1000000 in
theorem field_c (t : VT) (nm : ByteArray) (w : World) (hI : t.In w (· < w.heap.size)) :
    Calls Try.prog 25 #[t.val, .string nm] w (FldPost t nm w) := by
  rw [VT.val_eq]
  obtain ⟨⟨hk1, hk2⟩, _, _, _, _, hd1, hd2, hkl⟩ := hI.bounds
  by_cases h4 : t.k = 4
  · have hK := Lib.hid h4
    have hk4 : (t.k == 4) = true := by rw [h4]; rfl
    have hk4' : (t.k != 4) = false := by rw [h4]; rfl
    clear h4
    have HI := Lib.hid hI
    have HKL := Lib.hid hkl
    clear hI hkl
    obtain ⟨n, hn⟩ : ∃ n, n = t.vs.length := ⟨_, rfl⟩
    rw [← hn] at hd1 ⊢
    have hn63 : n ≤ 9223372036854775807 := by omega
    have HN := Lib.hid hn
    clear hn
    have HADR : Hid (0 < n → ∃ g o, t.F = some ⟨g, o, none⟩ ∧ g < w.heap.size ∧ ∀ i, i < n → w.cell? ⟨g, o + i * 7, none⟩ = some (.string (t.key i)) ∧ (t.value i).Cells w g (o + i * 7 + 1)) := Lib.hid (fun h => by
      obtain ⟨g, o, e, hg, hi⟩ := HI.out.fields (by rw [← HN.out]; exact h)
      exact ⟨g, o, e, hg, fun i hil => hi i (by rw [← HN.out]; exact hil)⟩)
    generalize t.F = FA at *
    go_enter Try.func25, Try.ntmps25
    go_wp2_with fail
    go_loop [6] (fun v => ∃ k : Nat, k ≤ n ∧ v = .int .i64 k ∧ Hid (∀ j, j < k → t.key j ≠ nm)) (fun v => n - (intOf v).toNat)
    case atStart => exact ⟨0, Nat.zero_le _, rfl, Lib.hid (fun j hj => absurd hj (Nat.not_lt_zero _))⟩
    case round =>
      obtain ⟨k, hk, rfl, HA⟩ := hrel
      by_cases hlt : k < n
      · obtain ⟨g, o, hFA, hg, hcell⟩ := HADR.out (by omega)
        subst hFA
        obtain ⟨c0, c1, c2, c3, c4, c5, c6⟩ := hcell k hlt
        clear hcell
        by_cases he : t.key k = nm
        · have HE := Lib.hid he
          have HF := Lib.hid (fld_hit hK.out (VT.findI_some (by rw [← HN.out]; exact hlt) he HA.out))
          have he2 : ((t.key k).toList == nm.toList) = true := by rw [toList_beq]; simpa using he
          clear he
          go_wp2_with fail
          refine bodyPost_ret (v := .tuple #[(t.value k).val, .int .i64 0]) (by simp [results, Try.results25, go_sem, VT.val_eq]) rfl ?_
          exact fldPost_ok (((Below.refl _ _).alloc (Nat.le_refl _) _).alloc (by simp) _) HF.out rfl
        · have HE := Lib.hid he
          have HA2 : Hid (∀ j, j < k + 1 → t.key j ≠ nm) := Lib.hid fun j hj => by
            by_cases e : j = k
            · subst e; exact HE.out
            · exact HA.out j (by omega)
          have he2 : ((t.key k).toList == nm.toList) = false := by rw [toList_beq]; simpa using he
          clear he
          go_wp2_with fail
          go_round
          case rel => exact ⟨k + 1, by omega, by go_num, HA2⟩
          case measure => simp [intOf]; omega
      · obtain rfl : n = k := by omega
        have HF := Lib.hid (fld_miss hK.out (VT.findI_none (t := t) (nm := nm) (by rw [← HN.out]; exact HA.out)))
        go_wp2_with fail
        refine bodyPost_ret (v := .tuple #[VT.zero.val, .int .i64 17]) (by simp [results, Try.results25, go_sem, VT.zero_val]; rfl) rfl ?_
        exact fldPost_err (((Below.refl _ _).alloc (Nat.le_refl _) _).alloc (by simp) _) HF.out rfl
  · have HF := Lib.hid (fld_kind (nm := nm) h4)
    have hk4 : (t.k == 4) = false := by simpa using h4
    have hk4' : (t.k != 4) = true := by simpa using h4
    clear h4
    go_enter Try.func25, Try.ntmps25
    go_wp2_with fail
    refine bodyPost_ret (v := .tuple #[VT.zero.val, .int .i64 18]) (by simp [results, Try.results25, go_sem, VT.zero_val]; rfl) rfl ?_
    exact fldPost_err (((Below.refl _ _).alloc (Nat.le_refl _) _).alloc (by simp) _) HF.out rfl
theorem bel_of_only {w w' : World} (h : Only [] w w') : Bel w w' := h.to_below (Nat.le_refl _) (by simp)
/-- Strings as cells. -/
def vss (l : List ByteArray) : List Value := l.map Value.string
theorem vss_append (a b : List ByteArray) : vss (a ++ b) = vss a ++ vss b := List.map_append
theorem vss_length (a : List ByteArray) : (vss a).length = a.length := List.length_map _
theorem strs_of_row {w : World} {A : Option Addr} {n c : Nat} {l : List ByteArray} (h : RowAt w 9 A n c (vss l)) : Strs w A l := by
  by_cases h0 : l = []
  · exact .inl h0
  · have hl : 0 < l.length := List.length_pos_iff.2 h0
    obtain ⟨g, o, rfl, _⟩ := h.cell (j := 0) (u := .string l[0]) (by simp [vss, List.getElem?_eq_getElem hl])
    have hg := h.lt g (by simp [rowT])
    refine .inr ⟨g, o, rfl, hg, fun i hi => ?_⟩
    obtain ⟨g', o', e, hc⟩ := h.cell (j := i) (u := .string (l.getD i ByteArray.empty)) (by simp [vss, List.getElem?_eq_getElem hi])
    simp only [Option.some.injEq, Addr.mk.injEq, and_true] at e
    obtain ⟨rfl, rfl⟩ := e
    exact hc
theorem info_str : (Try.prog.info? 9).map (fun i => (i.zero, i.size, i.bytes)) = some (some (.string ByteArray.empty), 1, 16) := by kernel_rfl
/-- append(l, s) at the operation. -/
theorem wp_appendS {w : World} {ops : Array Oper} {rest : List Oper} {o : Oper} {a : Act} {Q : Exit → Act → World → Prop} (hgd : o.guard = none) (s x : Operand)
    (ho : o.op = .call { callee := .builtin .append, args := #[s, x], argTypes := #[23, 23] })
    (A : Option Addr) (n c : Nat) (zs : List ByteArray) (hs : a.eval s = .slice A n c) (hA : RowAt w 9 A n c (vss zs)) (g : Nat) (r : ByteArray) (hx : a.eval x = .slice (some ⟨g, 0, none⟩) 1 1)
    (hb : Blk w g 9 [.string r]) (hn : n ≤ 4000000)
    (h : ∀ A' c' w', Hid (RowAt w' 9 A' (n + 1) c' (vss (zs ++ [r]))) → Hid (Only (rowT A) w w') → Hid (∀ k, k ∈ rowT A' → k ∈ rowT A ∨ w.heap.size ≤ k) → wpList Try.prog ops Q rest (a.put o.dst (.slice A' (n + 1) c')) w') :
    wpList Try.prog ops Q (o :: rest) a w := by
  obtain ⟨i0, hi, hz0, hz1, hz2⟩ := info_parts info_str
  have hr := Reads.of_blk hb 0 1 (by simp) hb.lt
  refine wp_rowAppend hgd s x 23 ho 9 i0 _ 16 Try.underlying23 hi hz0 hz1 hz2 rfl A n c (vss zs) hs hA w.heap.size (some ⟨g, 0, none⟩) 1 1 [.string r] hx hr (by simp [Value.oneCell']) (by unfold maxLen; omega) (by omega) (n + 1) rfl ?_
  intro A' c' w' h1 h2 h3
  refine h A' c' w' (Lib.hid ?_) (Lib.hid h2) h3
  have := h1.out
  rw [vss_append]
  exact this

/-- A value's cells, as a list. -/
def VT.cs (t : VT) : List Value := [.int .i64 t.k, .string t.s, .int .i64 t.n, .bool t.b, .slice t.A t.xs.length t.c, .slice t.F t.vs.length t.d]
theorem VT.zero_cs : VT.zero.cs = [.int .i64 0, .string ByteArray.empty, .int .i64 0, .bool false, .slice none 0 0, .slice none 0 0] := rfl
theorem cs_cells {w : World} {g : Nat} {t : VT} (h : Blk w g 27 t.cs) : t.Cells w g 0 :=
  ⟨h.cell 0, h.cell 1, h.cell 2, h.cell 3, h.cell 4, h.cell 5⟩
/-- Six cells written. -/
theorem set6 {w : World} {g : Nat} {T : TypeId} {a0 a1 a2 a3 a4 a5 : Value} (h : Blk w g T [a0, a1, a2, a3, a4, a5]) (v0 v1 v2 v3 v4 v5 : Value) :
    Blk ((((((w.setCell ⟨g, 0, none⟩ v0).setCell ⟨g, 1, none⟩ v1).setCell ⟨g, 2, none⟩ v2).setCell ⟨g, 3, none⟩ v3).setCell ⟨g, 4, none⟩ v4).setCell ⟨g, 5, none⟩ v5) g T [v0, v1, v2, v3, v4, v5] :=
  (((((h.set_ 0 v0).set_ 1 v1).set_ 2 v2).set_ 3 v3).set_ 4 v4).set_ 5 v5
theorem only6 (w : World) (g : Nat) (v0 v1 v2 v3 v4 v5 : Value) :
    Only [g] w ((((((w.setCell ⟨g, 0, none⟩ v0).setCell ⟨g, 1, none⟩ v1).setCell ⟨g, 2, none⟩ v2).setCell ⟨g, 3, none⟩ v3).setCell ⟨g, 4, none⟩ v4).setCell ⟨g, 5, none⟩ v5) :=
  ((((((Only.refl [g] w).setCell (.inl (by simp)) _).setCell (.inl (by simp)) _).setCell (.inl (by simp)) _).setCell (.inl (by simp)) _).setCell (.inl (by simp)) _).setCell (.inl (by simp)) _
/-- Two results, the first a value in a block. -/
theorem done2 {f : Func} (hf : f.results = #[.cell 4 27, .tmp 5]) {tmps : Array Value} {g : Nat} {c : Int} {u : VT} {W : World} (hp : tmps.getD 4 undef = .pointer (some ⟨g, 0, none⟩)) (h5 : tmps.getD 5 undef = .int .i64 c)
    (hB : Blk W g 27 u.cs) : (results f tmps).run Try.prog W = .ok (.tuple #[u.val, .int .i64 c]) W := by
  have hp' : tmps[4]?.getD undef = .pointer (some ⟨g, 0, none⟩) := by simpa using hp
  have h5' : tmps[5]?.getD undef = .int .i64 c := by simpa using h5
  have hl := run_loadVar_row W g 27 u.cs.toArray (0, 0) _ (P := Try.prog) (ty := 27) hB Try.underlying27 rfl (by kernel_rfl)
  simp [results, hf, hp', h5', asAddr, hl]
  rfl
theorem only_cell {S : List Nat} {w w' : World} (h : Only S w w') {b o : Nat} (hb : b < w.heap.size) (hS : b ∉ S) : w'.cell? ⟨b, o, none⟩ = w.cell? ⟨b, o, none⟩ := by
  have := h.block b hb hS
  simp only [World.cell?, this]
theorem bel_only {w w' : World} (h : Bel w w') : Only [] w w' := Only.of_below h fun _ hk _ => hk
theorem bel_on {S : List Nat} {w w1 w2 : World} (hb : Bel w w1) (h : Only S w1 w2) (hS : ∀ k, k ∈ S → w.heap.size ≤ k) : Bel w w2 := Only.below hb h hb.size hS
theorem bel_on1 {g : Nat} {w w1 w2 : World} (hb : Bel w w1) (h : Only [g] w1 w2) (hS : w.heap.size ≤ g) : Bel w w2 := bel_on hb h (by simpa using hS)

theorem fldPost_cases {t : VT} {nm : ByteArray} {w w' : World} {e : Ending} (h : FldPost t nm w e w') :
    ∃ (x : VT) (c : Int), e = .returned (.tuple #[.agg #[.int .i64 x.k, .string x.s, .int .i64 x.n, .bool x.b, .slice x.A x.xs.length x.c, .slice x.F x.vs.length x.d], .int .i64 c]) ∧ Bel w w' ∧ ((t.fld nm = .ok x ∧ c = 0) ∨ (t.fld nm = .error c ∧ c ≠ 0)) := by
  obtain ⟨hb, h⟩ := h
  cases hf : t.fld nm with
  | ok u => rw [hf] at h; exact ⟨u, 0, h, hb, .inl ⟨rfl, rfl⟩⟩
  | error c =>
    rw [hf] at h
    refine ⟨VT.zero, c, h, hb, .inr ⟨rfl, ?_⟩⟩
    unfold VT.fld at hf
    split at hf
    · injection hf with hf; omega
    · split at hf
      · cases hf
      · injection hf with hf; omega

theorem zero_in (w : World) (Q : Nat → Prop) : VT.zero.In w Q :=
  .mk _ (by decide) (by decide) (by decide) (by decide) (by decide) rfl (fun h => absurd h (by decide)) (fun h => absurd h (by decide)) (by intro x hx; cases hx) (by intro x hx; cases hx) (by intro x hx; cases hx)
end Go.Proofs.Ytollcekcmnokaaa
