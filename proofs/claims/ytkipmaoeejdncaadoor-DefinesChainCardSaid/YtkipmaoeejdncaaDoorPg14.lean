/-
  Contract: the program's Reachable of layer 14: the map of bodies, the recursive closure, the names in order.
  Contracts: what the program's functions of layer 14 answer, in the form that the laws ask.
  Contract: alive of layer 14.
-/
import Derived.Test.YtkipmaoeejdncaaDoorPk14
import Derived.Test.YtkipmaoeejdncaaDoorDn14
import Derived.Test.YtkipmaoeejdncaaDoorRegion2
import Derived.Laws.EntriesVeiled
import Derived.Test.YtkipmaoeejdncaaDoorAv14
namespace Go.Proofs.YtkipmaoeejdncaaDoor
open Go.RowKit Go.BigFrame Go.Maps NT
set_option linter.unusedVariables false
set_option linter.unusedSimpArgs false

/-! ### Small things -/
theorem cell_only {S : List Nat} {w w' : World} (h : Only S w w') {b p : Nat} (hb : b < w.heap.size) (hS : b ∉ S) : w'.cell? ⟨b, p, none⟩ = w.cell? ⟨b, p, none⟩ := by
  unfold World.cell?
  rw [h.block b hb hS]

/-! ### The map of bodies -/
theorem zeroSl14 (w : World) : (zeroValue 27).run Tryd.prog w = .ok (.slice none 0 0) w := by kernel_rfl
def fBod (a : ByteArray → Option Addr) (c : ByteArray → Nat) (D : List NT) (k : ByteArray) : Option Value := if hasN (D.map NT.s) k = true then some (.slice (a k) (bodD D k).length (c k)) else none
/-- The map M of the bodies of the definitions D. -/
structure BdAt (w2 wr : World) (M n : Nat) (D : List NT) (a : ByteArray → Option Addr) (c : ByteArray → Nat) : Prop where
  map : SMap wr M n (fBod a c D)
  rows : ∀ k, KRow wr 39 8 NT.cs (a k) (c k) (bodD D k)
  off : ∀ k, k ∉ D.map NT.s → a k = none ∧ c k = 0
  fresh : ∀ k b, b ∈ rowT (a k) → w2.heap.size ≤ b
  apart : ∀ k k', k ≠ k' → ∀ b, b ∈ rowT (a k) → b ∉ rowT (a k')
  on : Only [M] w2 wr
theorem fBod_get {a : ByteArray → Option Addr} {c : ByteArray → Nat} {D : List NT} (k : ByteArray) (h : k ∉ D.map NT.s → a k = none ∧ c k = 0) : (fBod a c D k).getD (.slice none 0 0) = .slice (a k) (bodD D k).length (c k) := by
  unfold fBod
  by_cases hk : k ∈ D.map NT.s
  · rw [if_pos (hasN_iff.2 hk)]; rfl
  · rw [if_neg (fun e => hk (hasN_iff.1 e)), bodD_none hk, (h hk).1, (h hk).2]; rfl
theorem fBod_some {a : ByteArray → Option Addr} {c : ByteArray → Nat} {D : List NT} (k : ByteArray) : (fBod a c D k).isSome = hasN (D.map NT.s) k := by
  unfold fBod
  cases hasN (D.map NT.s) k <;> rfl
theorem BdAt.start {w2 : World} {M : Nat} (h : SMap w2 M 0 (fun _ => none)) : BdAt w2 w2 M 0 [] (fun _ => none) (fun _ => 0) := by
  refine ⟨h.congr fun k => ?_, fun k => KRow.nil _ _ _ _, fun k _ => ⟨rfl, rfl⟩, fun k b hb => by simp [rowT] at hb, fun k k' _ b hb => by simp [rowT] at hb, Only.refl _ _⟩
  rfl
theorem bodD_step (D : List NT) (x : NT) (k : ByteArray) : bodD (D ++ [x]) k = bodD D k ++ (if x.s = k then x.b else []) := by
  rw [bodD_append, bodD, bodD, List.append_nil]
theorem BdAt.push {w2 wr W3 W4 W5 : World} {M n c' N : Nat} {D : List NT} {a : ByteArray → Option Addr} {c : ByteArray → Nat} {x : NT} {A' : Option Addr} (h : BdAt w2 wr M n D a c) (hM : M < w2.heap.size) (hb : Bel wr W3)
    (hR : KRow W4 39 8 NT.cs A' c' (bodD D x.s ++ x.b)) (hO : Only (rowT (a x.s)) W3 W4) (hK : ∀ k, k ∈ rowT A' → k ∈ rowT (a x.s) ∨ k = W3.heap.size) (hN : N = (bodD D x.s).length + x.b.length)
    (hS : SMap W5 M (n + 1) (fun k => if k = x.s then some (.slice A' N c') else fBod a c D k)) (hg : W4.grownBy W5 (some M)) :
    BdAt w2 W5 M (n + 1) (D ++ [x]) (fun k => if k = x.s then A' else a k) (fun k => if k = x.s then c' else c k) := by
  have s0 := h.on.size
  have s1 := hb.size
  have hO5 : Only [M] W4 W5 := (Only.refl [M] W4).grown hg (fun k hk => by cases hk; exact .inl (by simp))
  have hA' : ∀ k, k ∈ rowT A' → w2.heap.size ≤ k := fun k hk => by
    rcases hK k hk with h1 | h1
    · exact h.fresh _ k h1
    · omega
  refine ⟨hS.congr fun k => ?_, fun k => ?_, fun k hk => ?_, fun k b hb2 => ?_, fun k k' hne b hb2 => ?_, ?_⟩
  · unfold fBod
    dsimp only
    by_cases e : k = x.s
    · subst e
      rw [if_pos rfl, if_pos (hasN_iff.2 (by simp)), if_pos rfl, if_pos rfl, bodD_step, if_pos rfl, List.length_append, hN]
    · rw [if_neg e, if_neg e, if_neg e, bodD_step, if_neg (show ¬ x.s = k from fun e2 => e e2.symm), List.append_nil]
      by_cases h2 : k ∈ D.map NT.s
      · rw [if_pos (hasN_iff.2 h2), if_pos (hasN_iff.2 (by rw [List.map_append]; exact List.mem_append.2 (.inl h2)))]
      · rw [if_neg (fun e2 => h2 (hasN_iff.1 e2)), if_neg (show ¬ hasN ((D ++ [x]).map NT.s) k = true from fun e2 => ?_)]
        have h3 := hasN_iff.1 e2
        rw [List.map_append] at h3
        rcases List.mem_append.1 h3 with h4 | h4
        · exact h2 h4
        · exact e (by simpa using h4)
  · by_cases e : k = x.s
    · subst e
      simp only [if_true]
      rw [bodD_step, if_pos rfl]
      exact hR.only hO5 (fun k hk hk2 => by have := hA' k hk; simp at hk2; omega)
    · simp only [if_neg e]
      rw [bodD_step, if_neg (show ¬ x.s = k from fun e2 => e e2.symm), List.append_nil]
      exact (((h.rows k).only (bel_only hb) (by simp)).only hO (fun b hb2 hb3 => h.apart k x.s e b hb2 hb3)).only hO5 (fun b hb2 hb3 => by have := h.fresh k b hb2; simp at hb3; omega)
  · rw [List.map_append, List.mem_append, not_or] at hk
    have e : k ≠ x.s := fun e => hk.2 (by simp [e])
    simp only [if_neg e]
    exact h.off k hk.1
  · by_cases e : k = x.s
    · rw [if_pos e] at hb2; exact hA' b hb2
    · rw [if_neg e] at hb2; exact h.fresh k b hb2
  · intro hb3
    by_cases e : k = x.s
    · have e' : k' ≠ x.s := fun e2 => hne (e.trans e2.symm)
      rw [if_pos e] at hb2
      rw [if_neg e'] at hb3
      rcases hK b hb2 with h1 | h1
      · exact h.apart x.s k' (fun e2 => e' e2.symm) b h1 hb3
      · have := (h.rows k').lt b hb3; omega
    · rw [if_neg e] at hb2
      by_cases e' : k' = x.s
      · rw [if_pos e'] at hb3
        rcases hK b hb3 with h1 | h1
        · exact h.apart k x.s e b hb2 h1
        · have := (h.rows k).lt b hb2; omega
      · rw [if_neg e'] at hb3
        exact h.apart k k' hne b hb2 hb3
  · exact ((h.on.trans ((bel_only hb).more (by simp))).join hO (fun k hk => .inr (h.fresh _ k hk))).trans hO5
section
variable {ops : Array Oper} {Q : Exit → Act → World → Prop}
theorem exec_lookup {w : World} {o : Oper} {a : Act} {T : TypeId} {m x : Operand} (hop : o.op = Op.lookup T m x false) {M : Nat} {key v : Value} (hm : a.eval m = .map (some M)) (hx : a.eval x = key)
    (h : (Instr.lookup T (.map (some M)) key false).run Tryd.prog w = .ok v w) : (execOp a.eval o).run Tryd.prog w = .ok (.value v) w := by
  simp [execOp, hop, hm, hx, h, Result.andThen]
theorem exec_store {w w1 : World} {a : Act} {o : Oper} {T : TypeId} {m x v : Operand} (hop : o.op = .mapUpdate T m x v) {M : Nat} {key val : Value} (hm : a.eval m = .map (some M)) (hx : a.eval x = key) (hv : a.eval v = val)
    (h : (Instr.mapUpdate T (.map (some M)) key val).run Tryd.prog w = .ok () w1) : (execOp a.eval o).run Tryd.prog w = .ok .skip w1 := by
  simp [execOp, hop, hm, hx, hv, h, Result.andThen]
theorem region_ndAppend {T : List Nat} (k : Nat) {listed : Array Bool} {fuel : Nat} {a : Act} {w : World} {o : Oper} (hr : Region.ready .any ops listed = [k])
    (ho : ops[k]? = some o) (hw : Region.wanted o (yielded ops a.tmps) = true) (s x : Operand) (hop : o.op = .call { callee := .builtin .append, args := #[s, x], argTypes := #[27, 27] })
    (A : Option Addr) (n c : Nat) (l : List NT) (hn : l.length = n) (hs : a.eval s = .slice A n c) (hA : KRow w 39 8 NT.cs A c l) (X : Option Addr) (d : Nat) (m : List NT) (j : Nat) (hj : m.length = j) (hx : a.eval x = .slice X j d) (hX : Src w 8 NT.cs X m)
    (hle : n + j ≤ 100000) (hT : ∀ g, g ∈ rowT A → g ∈ T)
    (h : ∀ A' c' w', Hid (KRow w' 39 8 NT.cs A' c' (l ++ m)) → Hid (Only (rowT A) w w') → Hid (∀ k, k ∈ rowT A' → k ∈ rowT A ∨ k = w.heap.size) →
      wpAnyH Tryd.prog .any ops Q (Only T w') fuel (listed.setIfInBounds k true) (a.put o.dst (.slice A' (n + j) c')) w') :
    wpAnyH Tryd.prog .any ops Q (Only T w) (fuel + 1) listed a w := by
  obtain ⟨i0, hi, hz, hsize, hby⟩ := info_parts info_node14
  subst hn hj
  obtain ⟨A', c', w', hrun, h2, h3, h4⟩ := rowK_append (P := Tryd.prog) o.type Tryd.underlying27 hi hz hsize hby cells_node14 (by decide) hA d (flat_length NT.cs_len m) hX (fun u hu => by obtain ⟨y, _, hy⟩ := flat_mem hu; exact NT.cs_one y u hy) (by unfold maxLen; omega) (by omega)
  refine region_make k hr ho hw (exec_append hop hs hx hrun) (h3.more hT) (h A' c' w' (Lib.hid ?_) (Lib.hid h3) (Lib.hid h4))
  unfold KRow
  rw [flat_append, List.length_append]
  exact h2
end
/-- What lies in a row of nodes may be appended. -/
theorem row_src {w : World} {Q : Nat → Prop} {A : Option Addr} {c : Nat} {l : List NT} (h : Row w Q A c l) : Src w 8 NT.cs A l := fun h0 => by
  obtain ⟨g, o, rfl, _, hc⟩ := h.1.2 h0
  refine ⟨_, rfl, fun j u hu => ?_⟩
  have hj : j < l.length * 8 := by rw [← flat_length NT.cs_len l]; exact (List.getElem?_eq_some_iff.1 hu).1
  have hi : j / 8 < l.length := by omega
  have hx := List.getElem?_eq_getElem hi
  have e : (flat NT.cs l)[j / 8 * 8 + j % 8]? = (l[j / 8]).cs[j % 8]? := flat_at NT.cs_len hx (by omega)
  rw [show j / 8 * 8 + j % 8 = j by omega] at e
  have := hc (j / 8) _ hx (j % 8) u (by rw [← e]; exact hu)
  rw [add_at, ← this]
  congr 2
  omega
theorem row_of_in {w : World} {Q : Nat → Prop} {B : Option Addr} {d : Nat} {m : List NT} (hI : ∀ x, x ∈ m → x.In w Q) (hm : m.length ≤ 100000) (h : KRow w 39 8 NT.cs B d m) (hB : ∀ k, k ∈ rowT B → Q k) : Row w Q B d m := by
  refine ⟨⟨⟨h.le, h.max, ?_⟩, fun h0 => ?_⟩, hI⟩
  · unfold reachBytes; omega
  · obtain ⟨g, o, rfl, hg⟩ := h.addr (by have := h.le; omega)
    refine ⟨g, o, rfl, hB g (by simp [rowT]), fun i x hx => ?_⟩
    obtain ⟨g', o', e, _, hc⟩ := h.at_ NT.cs_len hx (by decide)
    injection e with e
    injection e with e1 e2
    subst e1 e2
    exact hc
theorem bodD_in {w : World} {Q : Nat → Prop} : ∀ {D : List NT}, (∀ d, d ∈ D → d.In w Q) → ∀ (k : ByteArray) (x : NT), x ∈ bodD D k → x.In w Q
  | [], _, k, x, hx => by rw [bodD] at hx; cases hx
  | d :: D, h, k, x, hx => by
    rw [bodD] at hx
    rcases List.mem_append.1 hx with h1 | h1
    · split at h1
      · exact (h d (by simp)).body.2 x h1
      · cases h1
    · exact bodD_in (fun y hy => h y (by simp [hy])) k x h1
theorem len_tots (l : List NT) : l.length ≤ tots l := Nat.le_trans (cnts_le_len l) (cnts_le l)

/-! ### The closure -/
/-- The closure as a value. -/
abbrev visV (Bb Br Bc : Nat) : Value := .func (.func 18) #[] #[.pointer (some ⟨Bb, 0, none⟩), .pointer (some ⟨Br, 0, none⟩), .pointer (some ⟨Bc, 0, none⟩)]
/-- All that the closure finds: the three captured variables, the map of bodies; the map M2 of the names met is another one. -/
structure VSt (m : List NT) (W0 : World) (M1 n1 M2 Bb Br Bc : Nat) (a : ByteArray → Option Addr) (c : ByteArray → Nat) : Prop where
  bb : Blk W0 Bb 44 [.map (some M1)]
  br : Blk W0 Br 37 [.map (some M2)]
  bc : Blk W0 Bc 45 [visV Bb Br Bc]
  map : SMap W0 M1 n1 (fBod a c (defsN m))
  rows : ∀ k, Row W0 (fun b => b < W0.heap.size ∧ b ≠ M2) (a k) (c k) (bodN m k)
  off : ∀ k, k ∉ namesN m → a k = none ∧ c k = 0
  ne : M1 ≠ M2 ∧ Bb ≠ M2 ∧ Br ≠ M2 ∧ Bc ≠ M2
  lt : M2 < W0.heap.size
  tots : tots m ≤ 5000
/-- What is asked before a visit. -/
structure ViI (m : List NT) (W0 : World) (M2 : Nat) (F : List ByteArray) (X : Option Addr) (d : Nat) (nodes : List NT) (W : World) : Prop where
  on : Only [M2] W0 W
  set : SMap W M2 F.length (fF F)
  nd : F.Nodup
  names : ∀ n, n ∈ F → n ∈ namesN m
  row : Row W0 (fun b => b < W0.heap.size ∧ b ≠ M2) X d nodes
  few : NT.tots nodes ≤ 5000
/-- What the visit of nodes leaves. -/
def ViR (m : List NT) (M2 : Nat) (F : List ByteArray) (nodes : List NT) (W : World) (e : Ending) (W' : World) : Prop :=
  e = .returned (.tuple #[]) ∧ ∃ F', Hid (Wst (namesN m) (bodN m) F (callNs nodes) F') ∧ Hid (Only [M2] W W') ∧ Hid (SMap W' M2 F'.length (fF F'))
theorem names_leW {m : List NT} {F : List ByteArray} (hn : F.Nodup) (h : ∀ n, n ∈ F → n ∈ namesN m) : F.length ≤ tots m := by
  have h1 := nodup_len_le (F.map toL) ((namesN m).map toL) (by
    rw [List.nodup_iff_pairwise_ne, List.pairwise_map]
    exact (List.nodup_iff_pairwise_ne.1 hn).imp (fun hne e => hne (toL_inj e))) (fun x hx => by
    obtain ⟨y, hy, rfl⟩ := List.mem_map.1 hx
    exact List.mem_map.2 ⟨y, h y hy, rfl⟩)
  rw [List.length_map, List.length_map] at h1
  have h2 : (namesN m).length ≤ m.length := by
    unfold namesN defsN
    rw [List.length_map]
    exact List.length_filter_le _ _
  have h3 := len_tots m
  omega
/-- A name that was not yet met: what holds before its bodies are visited, what holds behind it. -/
theorem vi_nextW {m : List NT} {W0 : World} {M1 n1 M2 Bb Br Bc : Nat} {a : ByteArray → Option Addr} {c : ByteArray → Nat} (S : VSt m W0 M1 n1 M2 Bb Br Bc a c) {F : List ByteArray} {X : Option Addr} {d : Nat} {nodes : List NT} {W : World} (H : ViI m W0 M2 F X d nodes W)
    {cs : List NT} {F' : List ByteArray} {x : NT} {wa wz : World} (HV : Wst (namesN m) (bodN m) F cs F') (HO : Only [M2] W0 wa) (HM : SMap wz M2 (F'.length + 1) (fun k => if k = x.s then some (.bool true) else fF F' k)) (HG : Only [M2] wa wz) (hxn : x.s ∈ namesN m) (hxF : x.s ∉ F') :
    ViI m W0 M2 (F' ++ [x.s]) (a x.s) (c x.s) (bodN m x.s) wz ∧ leftW (namesN m) (F' ++ [x.s]) < leftW (namesN m) F ∧
    ∀ e w', ViR m M2 (F' ++ [x.s]) (bodN m x.s) wz e w' → e = .returned (.tuple #[]) ∧ ∃ F3, Hid (Wst (namesN m) (bodN m) F (cs ++ [x]) F3) ∧ Hid (Only [M2] wa w') ∧ Hid (SMap w' M2 F3.length (fF F3)) := by
  have hnd := HV.nodup H.nd
  have hnm := HV.names H.names
  refine ⟨⟨HO.trans HG, ?_, ?_, ?_, S.rows x.s, Nat.le_trans (bodN_tots m x.s) S.tots⟩, ?_, ?_⟩
  · rw [List.length_append]
    exact HM.congr fun k => fF_push _ _ _
  · rw [List.nodup_append]
    exact ⟨hnd, by simp, fun a ha b hb e => by rw [List.mem_singleton] at hb; subst hb; subst e; exact hxF ha⟩
  · intro n hn
    rcases List.mem_append.1 hn with h1 | h1
    · exact hnm n h1
    · rw [List.mem_singleton] at h1; subst h1; exact hxn
  · have h1 := leftW_step hxn hxF
    obtain ⟨G, hG⟩ := HV.ext
    have h2 : leftW (namesN m) F' ≤ leftW (namesN m) F := by rw [hG]; exact leftW_ext
    omega
  · rintro e w' ⟨rfl, F3, h1, h2, h3⟩
    exact ⟨rfl, F3, Lib.hid (HV.step hxn hxF h1.out), Lib.hid (HG.trans h2.out), h3⟩
section
variable {w : World} {ops : Array Oper} {rest : List Oper} {o : Oper} {a : Act} {Q : Exit → Act → World → Prop}
theorem wp_look_want (hw : Region.wanted o (yielded ops a.tmps) = true) (m x : Operand) (t : TypeId) (hop : o.op = Op.lookup t m x false) (e : TypeId) (ht : Tryd.prog.underlying t = some (.map 9 e)) (z : Value) (hz : ∀ w, (zeroValue e).run Tryd.prog w = .ok z w)
    (M n : Nat) (f : ByteArray → Option Value) (hm : a.eval m = .map (some M)) (h : SMap w M n f) (key : ByteArray) (hx : a.eval x = .string key) (hk : key.size ≤ maxLen) (v : Value) (hv : (f key).getD z = v)
    (hK : wpList Tryd.prog ops Q rest (a.put o.dst v) w) : wpList Tryd.prog ops Q (o :: rest) a w := by
  refine wpList_want hw fun K' hK' => ?_
  have hrun := h.look ht (hz w) hk
  rw [hv] at hrun
  unfold Oper.wp
  simp [execOp, hop, hm, hx, hrun, Result.andThen]
  exact hK' _ _ hK
end
set_option maxRecDepth 100000 in
set_option maxHeartbeats 6400000 in
theorem visit_step (m : List NT) (W0 : World) (M1 n1 M2 Bb Br Bc : Nat) (a : ByteArray → Option Addr) (c : ByteArray → Nat) (hS : VSt m W0 M1 n1 M2 Bb Br Bc a c) (n : Nat)
    (ih : ∀ (F : List ByteArray) (X : Option Addr) (d : Nat) (nodes : List NT) (W : World), leftW (namesN m) F < n → ViI m W0 M2 F X d nodes W →
      Calls Tryd.prog 18 #[.slice X nodes.length d, .pointer (some ⟨Bb, 0, none⟩), .pointer (some ⟨Br, 0, none⟩), .pointer (some ⟨Bc, 0, none⟩)] W (ViR m M2 F nodes W))
    (F : List ByteArray) (X : Option Addr) (d : Nat) (nodes : List NT) (W : World) (hn : leftW (namesN m) F ≤ n) (h : ViI m W0 M2 F X d nodes W) :
    Calls Tryd.prog 18 #[.slice X nodes.length d, .pointer (some ⟨Bb, 0, none⟩), .pointer (some ⟨Br, 0, none⟩), .pointer (some ⟨Bc, 0, none⟩)] W (ViR m M2 F nodes W) := by
  have H := Lib.hid h
  have S := Lib.hid hS
  have HIH := Lib.hid ih
  have hroww := h.row.same (w' := W) (Q' := Lt W) (fun b hb => Nat.lt_of_lt_of_le hb.1 h.on.size) (fun b p hb => cell_only h.on hb.1 (by simpa using hb.2))
  have HCA := Lib.hid (dcalls_c hroww (show NT.tots nodes ≤ 100000 by have := h.few; omega))
  have HCI := Lib.hid (fun x (hx : x ∈ callNs nodes) => in_s14 (callNs_in hroww x hx))
  have HTN := Lib.hid h.few
  clear h ih hS hroww
  go_enter Tryd.func18, Tryd.ntmps18
  go_wp2_with (go_at_call 14; ((with_reducible refine HCA.out.mono ?_); rintro e w1 ⟨Y, y, rfl, HY1, HYF, HB1⟩; have hkl := callNs_len nodes; have htl := HTN.out; obtain ⟨cs, hcs⟩ : ∃ q, q = callNs nodes := ⟨_, rfl⟩; rw [← hcs] at HY1 hkl ⊢; obtain ⟨cn, hcn⟩ : ∃ q, q = cs.length := ⟨_, rfl⟩; rw [← hcn] at hkl ⊢; have hcm : cn ≤ 5000 := (by omega); have HCS := Lib.hid hcs; have HCN := Lib.hid hcn; clear hkl htl hcs hcn))
  have HO1 := Lib.hid (H.out.on.trans ((bel_only HB1.out).more (by simp)))
  have HS1 := Lib.hid (H.out.set.bel HB1.out)
  go_loopw [12] (fun s12 wr => ∃ (i : Nat) (F' : List ByteArray), i ≤ cn ∧ s12 = .int .i64 i ∧ Hid (Wst (namesN m) (bodN m) F (cs.take i) F') ∧ Hid (Only [M2] W0 wr) ∧ Hid (Only [M2] w1 wr) ∧ Hid (SMap wr M2 F'.length (fF F'))) (fun s12 _ => cn - (intOf s12).toNat)
  case atStart => exact ⟨0, F, Nat.zero_le _, rfl, Lib.hid (Wst.nil _ _ _), HO1, Lib.hid (Only.refl _ _), HS1⟩
  case round =>
    obtain ⟨i, F', hi, rfl, HV, HO, HW1, HSM⟩ := hrel
    by_cases hlt : i < cn
    · have hxt := List.getElem?_eq_getElem (l := cs) (i := i) (by have := HCN.out; omega)
      generalize cs[i]'(by have := HCN.out; omega) = x at hxt
      have HTK := Lib.hid (NT.take_step hxt)
      have HXS := Lib.hid (HCI.out x (by rw [← HCS.out]; exact List.mem_of_getElem? hxt))
      have hY := HY1.out.only HW1.out (fun k hk hk2 => by
        have h1 := HYF.out k hk
        have h2 := H.out.on.size
        have h3 := S.out.lt
        simp at hk2
        omega)
      obtain ⟨g, o, hYA, hg, hcc⟩ := hY.at_ NT.cs_len hxt (by decide)
      subst hYA
      obtain ⟨z0, z1, z2, z3, z4, z5, z6, z7⟩ := Cells.all (t := x) hcc
      have HBA := Lib.hid (Bel.alloc wr (.cells #[.int .i64 x.k, .int .i64 x.a, .string x.s, .string x.p, .bool x.h, .bool x.e, .slice x.A x.b.length x.c, .slice x.B x.l.length x.d] 39))
      have HOA := Lib.hid (HO.out.alloc (.cells #[.int .i64 x.k, .int .i64 x.a, .string x.s, .string x.p, .bool x.h, .bool x.e, .slice x.A x.b.length x.c, .slice x.B x.l.length x.d] 39))
      have HM1 := Lib.hid (S.out.map.only HOA.out (by simpa using S.out.ne.1))
      have HM2 := Lib.hid (HSM.out.alloc (.cells #[.int .i64 x.k, .int .i64 x.a, .string x.s, .string x.p, .bool x.h, .bool x.e, .slice x.A x.b.length x.c, .slice x.B x.l.length x.d] 39))
      have v1 := (S.out.bb.only HOA.out (by simpa using S.out.ne.2.1)).cell 0
      have v2 := (S.out.br.only HOA.out (by simpa using S.out.ne.2.2.1)).cell 0
      simp only [List.getElem?_cons_zero] at v1 v2
      clear hxt hY hg hcc
      by_cases hxn : x.s ∈ namesN m
      · have HV1 := Lib.hid (fBod_get (D := defsN m) x.s (S.out.off x.s) : (fBod a c (defsN m) x.s).getD (.slice none 0 0) = .slice (a x.s) (bodN m x.s).length (c x.s))
        have HI1 := Lib.hid (show (fBod a c (defsN m) x.s).isSome = true by rw [fBod_some]; exact hasN_iff.2 hxn)
        by_cases hxF : x.s ∈ F'
        · have HV2 := Lib.hid (show (fF F' x.s).getD (.bool false) = .bool true by rw [fF_bool, hasN_iff.2 hxF])
          go_wp2_with (first
            | (at_lookup; (refine wp_look_ok rfl (.tmp 17) (.tmp 19) 44 rfl 27 Tryd.underlying44 (.slice none 0 0) zeroSl14 M1 n1 (fBod a c (defsN m)) rfl HM1.out x.s rfl HXS.out (.slice (a x.s) (bodN m x.s).length (c x.s)) true HV1.out HI1.out ?_))
            | ((with_reducible refine wp_look_want (by kernel_rfl) (.tmp 25) (.tmp 27) 37 rfl 4 Tryd.underlying37 (.bool false) zeroBool14 M2 F'.length (fF F') rfl HM2.out x.s rfl HXS.out (.bool true) HV2.out ?_)))
          go_roundw
          case rel => exact ⟨i + 1, F', by omega, by go_num, Lib.hid (by rw [HTK.out]; exact HV.out.skip (.inr hxF)), HOA, Lib.hid (HW1.out.alloc (.cells #[.int .i64 x.k, .int .i64 x.a, .string x.s, .string x.p, .bool x.h, .bool x.e, .slice x.A x.b.length x.c, .slice x.B x.l.length x.d] 39)), HM2⟩
          case measure => simp [intOf]; omega
        · have HV2 := Lib.hid (show (fF F' x.s).getD (.bool false) = .bool false by rw [fF_bool, Bool.eq_false_iff.2 (fun e => hxF (hasN_iff.1 e))])
          have HLE := Lib.hid (names_leW (HV.out.nodup H.out.nd) (HV.out.names H.out.names))
          have HFL := Lib.hid (show F'.length < maxLen by have h1 := HLE.out; have h2 := S.out.tots; unfold maxLen; omega)
          go_wp2_with (first
            | (at_lookup; (refine wp_look_ok rfl (.tmp 17) (.tmp 19) 44 rfl 27 Tryd.underlying44 (.slice none 0 0) zeroSl14 M1 n1 (fBod a c (defsN m)) rfl HM1.out x.s rfl HXS.out (.slice (a x.s) (bodN m x.s).length (c x.s)) true HV1.out HI1.out ?_))
            | ((with_reducible refine wp_look_want (by kernel_rfl) (.tmp 25) (.tmp 27) 37 rfl 4 Tryd.underlying37 (.bool false) zeroBool14 M2 F'.length (fF F') rfl HM2.out x.s rfl HXS.out (.bool false) HV2.out ?_))
            | ((with_reducible refine wp_store rfl (.tmp 31) (.tmp 33) (.const (.bool true)) 37 rfl 4 Tryd.underlying37 M2 F'.length (fF F') rfl HM2.out HFL.out x.s rfl HXS.out (.bool true) rfl ?_); intro wz HMZ hgz; have HGZ := Lib.hid ((Only.refl [M2] (wr.alloc (.cells #[.int .i64 x.k, .int .i64 x.a, .string x.s, .string x.p, .bool x.h, .bool x.e, .slice x.A x.b.length x.c, .slice x.B x.l.length x.d] 39))).grown hgz (fun k hk => by cases hk; exact .inl (by simp))); have HNX := Lib.hid (vi_nextW S.out H.out HV.out HOA.out HMZ.out HGZ.out hxn hxF); have v4 := (S.out.bc.only (HOA.out.trans HGZ.out) (by simpa using S.out.ne.2.2.2)).cell 0; simp only [List.getElem?_cons_zero] at v4; clear hgz)
            | (go_at_call 18; ((with_reducible refine (HIH.out _ _ _ _ _ (Nat.lt_of_lt_of_le HNX.out.2.1 hn) HNX.out.1).mono ?_); rintro e wq hq; obtain ⟨rfl, F3, q1, q2, q3⟩ := HNX.out.2.2 e wq hq; clear hq)))
          go_roundw
          case rel => exact ⟨i + 1, F3, by omega, by go_num, Lib.hid (by rw [HTK.out]; exact q1.out), Lib.hid (HOA.out.trans q2.out), Lib.hid ((HW1.out.alloc (.cells #[.int .i64 x.k, .int .i64 x.a, .string x.s, .string x.p, .bool x.h, .bool x.e, .slice x.A x.b.length x.c, .slice x.B x.l.length x.d] 39)).trans q2.out), q3⟩
          case measure => simp [intOf]; omega
      · have HV1 := Lib.hid (show (fBod a c (defsN m) x.s).getD (.slice none 0 0) = .slice none 0 0 by unfold fBod; rw [if_neg (fun e => hxn (hasN_iff.1 e) : ¬ hasN ((defsN m).map NT.s) x.s = true)]; rfl)
        have HI1 := Lib.hid (show (fBod a c (defsN m) x.s).isSome = false by rw [fBod_some]; exact Bool.eq_false_iff.2 (fun e => hxn (hasN_iff.1 e)))
        go_wp2_with (at_lookup; (refine wp_look_ok rfl (.tmp 17) (.tmp 19) 44 rfl 27 Tryd.underlying44 (.slice none 0 0) zeroSl14 M1 n1 (fBod a c (defsN m)) rfl HM1.out x.s rfl HXS.out (.slice none 0 0) false HV1.out HI1.out ?_))
        go_roundw
        case rel => exact ⟨i + 1, F', by omega, by go_num, Lib.hid (by rw [HTK.out]; exact HV.out.skip (.inl hxn)), HOA, Lib.hid (HW1.out.alloc (.cells #[.int .i64 x.k, .int .i64 x.a, .string x.s, .string x.p, .bool x.h, .bool x.e, .slice x.A x.b.length x.c, .slice x.B x.l.length x.d] 39)), HM2⟩
        case measure => simp [intOf]; omega
    · obtain rfl : i = cn := by omega
      have HVF := Lib.hid (show Wst (namesN m) (bodN m) F (callNs nodes) F' by have h := HV.out; have e : cs.take i = callNs nodes := (by rw [HCN.out, List.take_length, HCS.out]); rw [e] at h; exact h)
      go_wp2_with fail
      refine bodyPost_ret (results_none rfl _ _ _) rfl ?_
      exact ⟨rfl, F', HVF, Lib.hid (((bel_only HB1.out).more (by simp)).trans HW1.out), HSM⟩
theorem visit_c (m : List NT) (W0 : World) (M1 n1 M2 Bb Br Bc : Nat) (a : ByteArray → Option Addr) (c : ByteArray → Nat) (hS : VSt m W0 M1 n1 M2 Bb Br Bc a c) : ∀ (n : Nat) (F : List ByteArray) (X : Option Addr) (d : Nat) (nodes : List NT) (W : World), leftW (namesN m) F ≤ n → ViI m W0 M2 F X d nodes W →
    Calls Tryd.prog 18 #[.slice X nodes.length d, .pointer (some ⟨Bb, 0, none⟩), .pointer (some ⟨Br, 0, none⟩), .pointer (some ⟨Bc, 0, none⟩)] W (ViR m M2 F nodes W)
  | 0, F, X, d, nodes, W, hn, h => visit_step m W0 M1 n1 M2 Bb Br Bc a c hS 0 (fun F X d nodes W h1 h2 => absurd h1 (by omega)) F X d nodes W hn h
  | n + 1, F, X, d, nodes, W, hn, h => visit_step m W0 M1 n1 M2 Bb Br Bc a c hS (n + 1) (fun F X d nodes W h1 h2 => visit_c m W0 M1 n1 M2 Bb Br Bc a c hS n F X d nodes W (by omega) h2) F X d nodes W hn h

/-! ### Reachable -/
abbrev WcR (wr : World) (Bb : Nat) : World := ((wr.alloc (.map #[] 0)).alloc (.cells #[.map (some wr.heap.size)] 37)).alloc (.cells #[(.func (.func 18) #[] #[.pointer (some ⟨Bb, 0, none⟩), .pointer (some ⟨wr.heap.size + 1, 0, none⟩), .pointer (some ⟨wr.heap.size + 1 + 1, 0, none⟩)])] 45)
/-- Before the first visit. -/
theorem vi_startW {m : List NT} {w w1 w2 wr : World} {A : Option Addr} {c0 M1 Bb n1 : Nat} {a : ByteArray → Option Addr} {c : ByteArray → Nat} {B : Option Addr} {p d : Nat} (hA : Row w (Lt w) A c0 m) (ht : tots m ≤ 5000) (hb1 : Bel w w1) (hM : M1 < w2.heap.size) (hB : Bb < w2.heap.size) (hMB : Bb ≠ M1) (h12 : Bel w1 w2) (hM1 : w1.heap.size ≤ M1)
    (hBb : Blk w2 Bb 44 [.map (some M1)]) (hD : BdAt w2 wr M1 n1 (defsN m) a c) (hmain : KRow w1 39 8 NT.cs B d (mainN m)) :
    VSt m (WcR wr Bb) M1 n1 wr.heap.size Bb (wr.heap.size + 1) (wr.heap.size + 1 + 1) a c ∧ ViI m (WcR wr Bb) wr.heap.size [] B d (mainN m) (WcR wr Bb) ∧ Bel w (WcR wr Bb) := by
  have b1 := Bel.alloc wr (.map #[] 0)
  have b2 := Bel.alloc (wr.alloc (.map #[] 0)) (.cells #[.map (some wr.heap.size)] 37)
  have b3 := Bel.alloc ((wr.alloc (.map #[] 0)).alloc (.cells #[.map (some wr.heap.size)] 37)) (.cells #[(.func (.func 18) #[] #[.pointer (some ⟨Bb, 0, none⟩), .pointer (some ⟨wr.heap.size + 1, 0, none⟩), .pointer (some ⟨wr.heap.size + 1 + 1, 0, none⟩)])] 45)
  have bb : Bel wr (WcR wr Bb) := (b1.trans b2).trans b3
  have ez : (WcR wr Bb).heap.size = wr.heap.size + 1 + 1 + 1 := by simp
  have s0 := hb1.size
  have s1 := h12.size
  have s2 := hD.on.size
  have hw1r : Bel w1 wr := bel_onK14 h12 hD.on (fun k hk => by simp at hk; omega)
  have hwc : Bel w (WcR wr Bb) := (hb1.trans hw1r).trans bb
  have hin : ∀ x, x ∈ m → x.In (WcR wr Bb) (fun b => b < (WcR wr Bb).heap.size ∧ b ≠ wr.heap.size) := fun x hx =>
    (hA.2 x hx).same (fun b hb => ⟨Nat.lt_of_lt_of_le hb hwc.size, by have : b < w.heap.size := hb; omega⟩) (fun b p hb => hwc.cell hb)
  refine ⟨⟨(hBb.only hD.on (by simpa using hMB)).bel bb, (blk_at1 wr (.map #[] 0) 37 [.map (some wr.heap.size)]).bel b3, ?_, hD.map.bel bb, fun k => ?_, hD.off, ⟨by omega, by omega, by omega, by omega⟩, by omega, ht⟩, ⟨Only.refl _ _, ?_, List.nodup_nil, (fun n h => by cases h), ?_, Nat.le_trans (tots_filter _ m) ht⟩, hwc⟩
  · have := Blk.new ((wr.alloc (.map #[] 0)).alloc (.cells #[.map (some wr.heap.size)] 37)) 45 [(.func (.func 18) #[] #[.pointer (some ⟨Bb, 0, none⟩), .pointer (some ⟨wr.heap.size + 1, 0, none⟩), .pointer (some ⟨wr.heap.size + 1 + 1, 0, none⟩)])]
    have e3 : ((wr.alloc (.map #[] 0)).alloc (.cells #[.map (some wr.heap.size)] 37)).heap.size = wr.heap.size + 1 + 1 := by simp
    rw [e3] at this
    exact this
  · have hbt := bodN_tots m k
    have hl := len_tots (bodN m k)
    refine row_of_in (bodD_in (fun x hx => hin x (defs_mem hx).1) k) (by omega) ((hD.rows k).only (bel_only bb) (by simp)) fun b hb => ⟨?_, ?_⟩
    · have := (hD.rows k).lt b hb; omega
    · have := (hD.rows k).lt b hb; omega
  · exact (((SMap.made wr).bel b2).bel b3).congr fun k => fF_nil k
  · have hl := len_tots (mainN m)
    have h2 : tots (mainN m) ≤ tots m := tots_filter _ m
    refine row_of_in (fun x hx => hin x (main_mem hx)) (by omega) (hmain.only (bel_only (hw1r.trans bb)) (by simp)) fun b hb => ⟨?_, ?_⟩
    · have := hmain.lt b hb; omega
    · have := hmain.lt b hb; omega
set_option maxRecDepth 100000 in
set_option maxHeartbeats 6400000 in
theorem reachK_c {m : List NT} {A : Option Addr} {c0 : Nat} {w : World} (hA : Row w (Lt w) A c0 m) (ht : tots m ≤ 5000) :
    Calls Tryd.prog 10 #[.slice A m.length c0] w fun e w' => ∃ R, RchIs m R ∧ Bel w w' ∧ ∃ B d, e = .returned (.slice B R.length d) ∧ R.length ≤ d ∧ d ≤ maxLen ∧ Strs w' B R := by
  have HSP := Lib.hid (dsplit_c hA (show m.length ≤ 100000 by have := len_tots m; omega))
  have hdl := defs_len m
  have hmt := len_tots m
  obtain ⟨D, hD⟩ : ∃ q, q = defsN m := ⟨_, rfl⟩
  rw [← hD] at hdl
  obtain ⟨n, hn⟩ : ∃ q, q = D.length := ⟨_, rfl⟩
  have hn5 : n ≤ 5000 := by omega
  have HA := Lib.hid hA
  have HT := Lib.hid ht
  have HN := Lib.hid hn
  have HD := Lib.hid hD
  have hmm := @run_makeMap Tryd.prog
  clear hA hn hD hdl ht hmt
  go_enter Tryd.func10, Tryd.ntmps10
  go_wp2_with (go_at_call 13; ((with_reducible refine HSP.out.mono ?_); rintro e w1 ⟨A1, c1, B1, d1, rfl, HS1⟩; rw [← HD.out, ← HN.out] at HS1 ⊢))
  have HM0 := Lib.hid ((SMap.made w1).alloc (.cells #[.map (some w1.heap.size)] 44))
  have HBb := Lib.hid (blk_at1 w1 (.map #[] 0) 44 [.map (some w1.heap.size)])
  have HB0 := Lib.hid ((Bel.alloc w1 (.map #[] 0)).trans (Bel.alloc (w1.alloc (.map #[] 0)) (.cells #[.map (some w1.heap.size)] 44)))
  have HW2 := Lib.hid (show ((w1.alloc (.map #[] 0)).alloc (.cells #[.map (some w1.heap.size)] 44)).heap.size = w1.heap.size + 1 + 1 by simp)
  generalize (w1.alloc (.map #[] 0)).alloc (.cells #[.map (some w1.heap.size)] 44) = w2 at HM0 HBb HB0 HW2 ⊢
  obtain ⟨Bb, hBb⟩ : ∃ q, q = w1.heap.size + 1 := ⟨_, rfl⟩
  obtain ⟨M1, hM1⟩ : ∃ q, q = w1.heap.size := ⟨_, rfl⟩
  have HSZ := Lib.hid (show w1.heap.size ≤ M1 ∧ M1 < w2.heap.size ∧ Bb < w2.heap.size ∧ Bb ≠ M1 by have := HW2.out; omega)
  rw [← hBb] at HBb ⊢
  rw [← hM1] at HM0 HBb
  clear hBb hM1 HW2
  go_loopw [18] (fun s18 wr => ∃ (i : Nat) (a : ByteArray → Option Addr) (c : ByteArray → Nat), i ≤ n ∧ s18 = .int .i64 i ∧ Hid (BdAt w2 wr M1 i (D.take i) a c)) (fun s18 _ => n - (intOf s18).toNat)
  case atStart => exact ⟨0, _, _, Nat.zero_le _, rfl, Lib.hid (BdAt.start HM0.out)⟩
  case round =>
    obtain ⟨i, a, c, hi, rfl, HBD⟩ := hrel
    by_cases hlt : i < n
    · obtain ⟨x, hx⟩ : ∃ x, D[i]? = some x := ⟨_, List.getElem?_eq_getElem (by have := HN.out; omega)⟩
      have hxl : x ∈ m := (defs_mem (l := m) (by rw [← HD.out]; exact List.mem_of_getElem? hx)).1
      have hw1r : Bel w1 wr := bel_onK14 HB0.out HBD.out.on (fun k hk => by have := HSZ.out; simp at hk; omega)
      obtain ⟨g, o, hAA, hg, hcc⟩ := (HS1.out.a.row.only (bel_only hw1r) (by simp)).at_ NT.cs_len hx (by decide)
      subst hAA
      obtain ⟨a0, a1, a2, a3, a4, a5, a6, a7⟩ := Cells.all (t := x) hcc
      have HTK := Lib.hid (NT.take_step hx)
      have HXI := Lib.hid (HA.out.2 x hxl)
      have HXT := Lib.hid (show x.b.length + (bodD (D.take i) x.s).length ≤ 100000 by
        have h1 := bodD_tots (D.take i) x.s
        have h2 := len_tots (bodD (D.take i) x.s)
        have h3 : tots D ≤ tots m := by rw [HD.out]; exact tots_filter _ m
        have h4 : tots (D.take i) ≤ tots D := by conv => rhs; rw [← List.take_append_drop i D, tots_append]
                                                 omega
        have h5 := tots_mem hxl
        have h6 := tot_eq x
        have h7 := len_tots x.b
        have h8 := HT.out
        omega)
      have HWR := Lib.hid (HS1.out.a.bel.trans hw1r)
      have HB3 := Lib.hid ((Bel.alloc wr (.cells #[.int .i64 x.k, .int .i64 x.a, .string x.s, .string x.p, .bool x.h, .bool x.e, .slice x.A x.b.length x.c, .slice x.B x.l.length x.d] 39)).trans (Bel.drew _))
      have HND := Lib.hid ((Blk.new wr 39 [.int .i64 x.k, .int .i64 x.a, .string x.s, .string x.p, .bool x.h, .bool x.e, .slice x.A x.b.length x.c, .slice x.B x.l.length x.d]).drew)
      have HBB := Lib.hid ((HBb.out.only HBD.out.on (by have := HSZ.out; simp; omega)).bel HB3.out)
      have HBl := Lib.hid (show Bb < wr.heap.size ∧ M1 < wr.heap.size by have h1 := HBD.out.on.size; have h2 := HSZ.out; omega)
      clear hx hxl hw1r hg hcc
      go_wp2_with fail
      refine region_begin (T := M1 :: rowT (a x.s)) (by kernel_rfl) ?_
      generalize (wr.alloc (.cells #[.int .i64 x.k, .int .i64 x.a, .string x.s, .string x.p, .bool x.h, .bool x.e, .slice x.A x.b.length x.c, .slice x.B x.l.length x.d] 39)).drew = W3 at HB3 HND HBB ⊢
      have HRA := Lib.hid (show Bb ∉ M1 :: rowT (a x.s) ∧ wr.heap.size ∉ M1 :: rowT (a x.s) by
        have h1 := HSZ.out
        have h2 := HBl.out
        refine ⟨fun h => ?_, fun h => ?_⟩
        · rcases List.mem_cons.1 h with h3 | h3
          · omega
          · have := HBD.out.fresh _ _ h3; omega
        · rcases List.mem_cons.1 h with h3 | h3
          · omega
          · have := (HBD.out.rows _).lt _ h3; omega)
      have p1 : ∀ X : Later (M1 :: rowT (a x.s)) W3, X.w.cell? ⟨Bb, 0, none⟩ = some (.map (some M1)) := fun X => (HBB.out.only X.h HRA.out.1).cell 0
      have p2 : ∀ X : Later (M1 :: rowT (a x.s)) W3, X.w.cell? ⟨wr.heap.size, 2, none⟩ = some (.string x.s) := fun X => (HND.out.only X.h HRA.out.2).cell 2
      have p6 : ∀ X : Later (M1 :: rowT (a x.s)) W3, X.w.cell? ⟨wr.heap.size, 6, none⟩ = some (.slice x.A x.b.length x.c) := fun X => (HND.out.only X.h HRA.out.2).cell 6
      refine region_seg [true, true, true, true, true, true, false, true, true] 3 (by kernel_rfl) (by kernel_rfl) (by kernel_rfl) rfl (fun _ _ d _ _ h => by cases d <;> exact h) ?_
      repeat (first | with_reducible refine wpMask_pass ?_ | (refine wpMask_want (by rfl) (fun K hK => ?_); go_big_quiet_op; refine hK _ ?_; clear hK K))
      with_reducible refine wpMask_nil ?_
      clear p1 p2 p6
      have HM3 := Lib.hid (HBD.out.map.bel HB3.out)
      have HLK := Lib.hid (HM3.out.look Tryd.underlying44 (zeroSl14 W3) (in_s14 HXI.out))
      rw [fBod_get x.s (HBD.out.off x.s)] at HLK
      refine region_make 6 (by kernel_rfl) rfl (by rfl) (exec_lookup rfl rfl rfl HLK.out) (Only.refl _ _) ?_
      simp only [List.getElem_toArray, List.getElem_cons_zero, List.getElem_cons_succ, Act.put, List.setIfInBounds_toArray, List.set_cons_zero, List.set_cons_succ]
      refine region_ndAppend 9 (by kernel_rfl) rfl (by rfl) (.tmp 28) (.tmp 30) rfl (a x.s) _ (c x.s) (bodD (D.take i) x.s) rfl rfl ((HBD.out.rows x.s).only (bel_only HB3.out) (by simp)) x.A x.c x.b _ rfl rfl (row_src (HXI.out.body.bel (HWR.out.trans HB3.out))) (by have := HXT.out; omega) (fun g hg => List.mem_cons_of_mem _ hg) ?_
      intro A' c' W4 HR4 HO4 HK4
      simp only [List.getElem_toArray, List.getElem_cons_zero, List.getElem_cons_succ, Act.put, List.setIfInBounds_toArray, List.set_cons_zero, List.set_cons_succ]
      obtain ⟨W5, hrun, hS5, hg5⟩ := (HM3.out.only HO4.out (fun h => by have h1 := HBD.out.fresh _ _ h; have h2 := HSZ.out; omega)).push Tryd.underlying44 (by unfold maxLen; omega) (in_s14 HXI.out) (.slice A' ((bodD (D.take i) x.s).length + x.b.length : Nat) c')
      refine region_store 10 (by kernel_rfl) rfl (by rfl) (exec_store rfl rfl rfl rfl hrun) ((Only.refl _ W4).grown hg5 (fun k hk => by cases hk; exact .inl (by simp))) ?_
      simp only [List.getElem_toArray, List.getElem_cons_zero, List.getElem_cons_succ, Act.put, List.setIfInBounds_toArray, List.set_cons_zero, List.set_cons_succ]
      refine region_end (by kernel_rfl) ?_
      have HNX := Lib.hid (HBD.out.push HSZ.out.2.1 HB3.out HR4.out HO4.out HK4.out rfl hS5 hg5)
      clear hrun hS5 hg5
      go_wp2_with fail
      go_roundw
      case rel => exact ⟨i + 1, _, _, by omega, by go_num, Lib.hid (by rw [HTK.out]; exact HNX.out)⟩
      case measure => simp [intOf]; omega
    · obtain rfl : i = n := by omega
      have HBF := Lib.hid (show BdAt w2 wr M1 i (defsN m) a c by have h := HBD.out; have e : D.take i = D := (by rw [HN.out, List.take_length]); rw [e, HD.out] at h; exact h)
      have HST := Lib.hid (vi_startW (p := 0) HA.out HT.out HS1.out.a.bel HSZ.out.2.1 HSZ.out.2.2.1 HSZ.out.2.2.2 HB0.out HSZ.out.1 HBb.out HBF.out HS1.out.b.row)
      have HVI := Lib.hid (visit_c m (WcR wr Bb) M1 i wr.heap.size Bb (wr.heap.size + 1) (wr.heap.size + 1 + 1) a c HST.out.1 _ [] B1 d1 (mainN m) (WcR wr Bb) (Nat.le_refl _) HST.out.2.1)
      clear hlt
      unfold WcR at HVI
      go_wp2_with (first
        | (go_at_call 18; ((with_reducible refine HVI.out.mono ?_); rintro e w6 ⟨rfl, F6, HV6, HO6, HS6⟩; have v8 := (HST.out.1.br.only HO6.out (by simp)).cell 0; simp only [List.getElem?_cons_zero] at v8; have HND := Lib.hid (HV6.out.nodup List.nodup_nil); have HLE := Lib.hid (names_leW HND.out (HV6.out.names (fun n h => by cases h))); have HSO := Lib.hid (sortedB_c HS6.out HND.out (show F6.length ≤ 1000000 by have h1 := HLE.out; have h2 := HT.out; omega))))
        | (go_at_call 20; ((with_reducible refine (keysB_c _ _).mono ?_); rintro e w7 ⟨rfl, rfl⟩))
        | (go_at_call 19; ((with_reducible refine HSO.out.mono ?_); rintro e w9 ⟨A9, c9, rfl, hl9, hm9, hs9, hb9⟩)))
      go_ret
      have hb6 : Bel w w6 := bel_onK14 HST.out.2.2 HO6.out (fun k hk => by
        have h1 := HS1.out.a.bel.size
        have h2 := HB0.out.size
        have h3 := HBD.out.on.size
        simp at hk
        omega)
      exact ⟨sortK F6, rch_ofW HV6.out (asc_sortK HND.out) (fun n => (sortK_perm F6).mem_iff), (hb6.trans (Bel.alloc w6 _)).trans hb9, A9, c9, rfl, hl9, hm9, hs9⟩
end Go.Proofs.YtkipmaoeejdncaaDoor

namespace Go.Proofs.YtkipmaoeejdncaaDoor
open Go.RowKit Go.BigFrame NT
set_option linter.unusedVariables false
set_option linter.unusedSimpArgs false

/-- Find: a node that differs from the first definition in its places only. -/
def DfP (m : List NT) (nm : ByteArray) (w : World) (e : Ending) (w' : World) : Prop := Bel w w' ∧ ((∃ (d t : NT), findN m nm = some d ∧ t.er = d.er ∧ t.In w' (Lt w') ∧ e = .returned (.tuple #[t.vv, .bool true])) ∨ (findN m nm = none ∧ e = .returned (.tuple #[ZN.vv, .bool false])))
/-- A list of strings. -/
def SsP (l : List ByteArray) (w : World) (e : Ending) (w' : World) : Prop := Bel w w' ∧ ∃ A c, e = .returned (.slice A l.length c) ∧ l.length ≤ c ∧ c ≤ maxLen ∧ Strs w' A l
theorem dnames_c {m : List NT} {A : Option Addr} {c : Nat} {w : World} (hA : Row w (Lt w) A c m) (ht : tots m ≤ 5000) : Calls Tryd.prog 9 #[.slice A m.length c] w (SsP (namesN m) w) := by
  have hl := len_tots m
  refine (dnamesK_c hA (by omega)).mono ?_
  rintro e w' ⟨B, d, rfl, h⟩
  exact ⟨h.bel, B, d, rfl, h.row.le, h.row.max, strs_row h.row⟩
theorem dmain_c {m : List NT} {A : Option Addr} {c : Nat} {w : World} (hA : Row w (Lt w) A c m) (ht : tots m ≤ 5000) : Calls Tryd.prog 17 #[.slice A m.length c] w fun e w' => Bel w w' ∧ ∃ B d, e = .returned (.slice B (mainN m).length d) := by
  have hl := len_tots m
  refine (mainK_c hA (by omega)).mono ?_
  rintro e w' ⟨B, d, rfl, h⟩
  exact ⟨h.bel, B, d, rfl⟩
theorem dcheck_c {m : List NT} {A : Option Addr} {c : Nat} {w : World} (hA : Row w (Lt w) A c m) (ht : tots m ≤ 5000) : Calls Tryd.prog 6 #[.slice A m.length c] w fun e w' => Bel w w' ∧ e = .returned (.tuple #[.int .i64 (checkN m).1, .int .i64 ((checkN m).2 : Nat)]) := dcheckK_c hA ht
theorem dreach_c {m : List NT} {A : Option Addr} {c : Nat} {w : World} (hA : Row w (Lt w) A c m) (ht : tots m ≤ 5000) : Calls Tryd.prog 10 #[.slice A m.length c] w fun e w' => ∃ R, RchIs m R ∧ SsP R w e w' := by
  refine (reachK_c hA ht).mono ?_
  rintro e w' ⟨R, hR, hb, B, d, h⟩
  exact ⟨R, hR, hb, B, d, h⟩
end Go.Proofs.YtkipmaoeejdncaaDoor

namespace Go.Proofs.YtkipmaoeejdncaaDoor
open Go.RowKit Go.BigFrame NT
set_option linter.unusedVariables false
set_option linter.unusedSimpArgs false

/-- What a row of parsed nodes is like. -/
theorem PdP.row {l : List NT} {w : World} {e : Ending} {w' : World} (h : PdP l w e w') : Bel w w' ∧ ∃ A c m, e = .returned (.slice A m.length c) ∧ Row w' (Lt w') A c m ∧ ers m = l := by
  obtain ⟨hb, A, c, m, h1, h2, h3⟩ := h
  exact ⟨hb, A, c, m, h1, h2.lt, h3⟩
theorem tots_of {m l : List NT} (h : ers m = l) (hl : Parsed l) : tots m ≤ 5000 := by have := hl.tots; rwa [← h, tots_ers] at this
theorem av_eq {w : World} {A : Option Addr} {c : Nat} (h : Strs w A [fB, gB]) : Calls Tryd.prog 16 #[.slice A 2 c, .slice (some ⟨w.heap.size, 0, none⟩) 2 2] (w.alloc (.cells #[.string ⟨#[102]⟩, .string ⟨#[103]⟩] 9)) fun e w' => e = .returned (.bool true) ∧ Bel w w' := by
  have hb := Bel.alloc w (.cells #[.string ⟨#[102]⟩, .string ⟨#[103]⟩] 9)
  refine (equalS14_c (h.bel hb) (strs_blk (l := [fB, gB]) (Blk.new w 9 [.string ⟨#[102]⟩, .string ⟨#[103]⟩])) c 2 (by decide) (by decide)).mono ?_
  rintro e w' ⟨rfl, hb2⟩
  exact ⟨by rw [decide_eq_true rfl], hb.trans hb2⟩
theorem main_one {m : List NT} (h : ers m = avN) : (mainN m).length = 1 := by
  have h1 : (mainN (ers m)).length = (mainN m).length := by rw [mainN_ers, List.length_map]
  rw [← h1, h, av_main]
  rfl
set_option maxRecDepth 100000 in
set_option maxHeartbeats 3200000 in
theorem alive_c (w : World) : Calls Tryd.prog 8 #[] w fun e w' => e = .returned (.bool true) ∧ Bel w w' := by
  have HP := Lib.hid (fun W => parsed_ok avS (by decide) _ av_lex _ av_par W)
  unfold avS at HP
  go_enter Tryd.func8, Tryd.ntmps8
  go_wp2_with (first
    | (go_at_call 7; ((with_reducible refine (HP.out _).mono ?_); rintro e w1 hp; obtain ⟨hb, A, c, m, rfl, hr, he⟩ := hp.row; have HB1 := Lib.hid hb; have HR1 := Lib.hid hr; have HE1 := Lib.hid he; have HT1 := Lib.hid (tots_of he av_parsed); clear hp hb hr he))
    | (go_at_call 6; ((with_reducible refine (dcheck_c HR1.out HT1.out).mono ?_); rintro e w2 ⟨hb, rfl⟩; rw [← checkN_ers, HE1.out, av_check]; have HB2 := Lib.hid (HB1.out.trans hb); have HR2 := Lib.hid (HR1.out.bel hb); clear hb))
    | (go_at_call 10; ((with_reducible refine (dreach_c HR2.out HT1.out).mono ?_); rintro e w3 ⟨R, hR, hb, A3, c3, rfl, _, _, hS⟩; have hR2 := av_reach (by have := hR.to_ers; rwa [HE1.out] at this); subst hR2; have HB3 := Lib.hid (HB2.out.trans hb); have HR3 := Lib.hid (HR2.out.bel hb); have HS3 := Lib.hid hS; have HEQ := Lib.hid (av_eq (c := c3) HS3.out); clear hb hS hR))
    | (go_at_call 16; ((with_reducible refine HEQ.out.mono ?_); rintro e w4 ⟨rfl, hb2⟩; have HB4 := Lib.hid (HB3.out.trans hb2); have HR4 := Lib.hid (HR3.out.bel hb2); clear hb2))
    | (go_at_call 17; ((with_reducible refine (dmain_c HR4.out HT1.out).mono ?_); rintro e w5 ⟨hb, B5, d5, rfl⟩; rw [main_one HE1.out]; have HB5 := Lib.hid (HB4.out.trans hb); clear hb)))
  go_ret
  exact ⟨rfl, HB5.out⟩
end Go.Proofs.YtkipmaoeejdncaaDoor
