/-
  Contracts: slices.Clone of values, of fields, of strings; elements of a row written as wholes.
-/
import Derived.Test.YtollcekcmnokaaaKRow
import Derived.Test.YtollcekcmnokaaaWeight
import Derived.Test.YtollcekcmnokaaaRefEq
import Derived.Test.YtollcekcmnokaaaPv
namespace Go.Proofs.Ytollcekcmnokaaa
open Go.RowKit Go.BigFrame
set_option linter.unusedVariables false
set_option linter.unusedSimpArgs false

theorem info_value : (Try.prog.info? 27).map (fun i => (i.zero, i.size, i.bytes)) = some (some (.agg #[.int .i64 0, .string ByteArray.empty, .int .i64 0, .bool false, .slice none 0 0, .slice none 0 0]), 6, 88) := by kernel_rfl
theorem info_field : (Try.prog.info? 49).map (fun i => (i.zero, i.size, i.bytes)) = some (some (.agg #[.string ByteArray.empty, .int .i64 0, .string ByteArray.empty, .int .i64 0, .bool false, .slice none 0 0, .slice none 0 0]), 7, 104) := by kernel_rfl
theorem VT.In.only {w w' : World} {Q Q' : Nat → Prop} {S : List Nat} {t : VT} (h : t.In w Q) (ho : Only S w w') (hS : ∀ g, Q g → g ∉ S ∧ g < w.heap.size) (hq : ∀ g, Q g → Q' g) : t.In w' Q' :=
  h.same hq fun g p hg => only_cell ho (hS g hg).2 (hS g hg).1
theorem csLen (t : VT) : t.cs.length = 6 := rfl
theorem csOne (t : VT) (u : Value) (h : u ∈ t.cs) : u.oneCell' = true := by
  simp only [VT.cs, List.mem_cons, List.not_mem_nil, or_false] at h
  rcases h with rfl | rfl | rfl | rfl | rfl | rfl <;> rfl
theorem cells_value : (Value.agg #[.int .i64 0, .string ByteArray.empty, .int .i64 0, .bool false, .slice none 0 0, .slice none 0 0]).cells.size = 6 := by kernel_rfl
/-- A field's cells. -/
def fF (p : ByteArray × VT) : List Value := fcs p.1 p.2
theorem fF_len (p : ByteArray × VT) : (fF p).length = 7 := rfl
theorem fF_one (p : ByteArray × VT) (u : Value) (h : u ∈ fF p) : u.oneCell' = true := by
  simp only [fF, fcs, List.mem_cons, List.not_mem_nil, or_false] at h
  rcases h with rfl | rfl | rfl | rfl | rfl | rfl | rfl <;> rfl
theorem cells_field : (Value.agg #[.string ByteArray.empty, .int .i64 0, .string ByteArray.empty, .int .i64 0, .bool false, .slice none 0 0, .slice none 0 0]).cells.size = 7 := by kernel_rfl
/-- A string's cell. -/
def fS (s : ByteArray) : List Value := [.string s]
theorem fS_len (s : ByteArray) : (fS s).length = 1 := rfl
theorem fS_one (s : ByteArray) (u : Value) (h : u ∈ fS s) : u.oneCell' = true := by
  simp only [fS, List.mem_cons, List.not_mem_nil, or_false] at h
  rw [h]; rfl
theorem cells_str : (Value.string ByteArray.empty).cells.size = 1 := by kernel_rfl

/-! ### Writing elements of a row -/
/-- Cells written one behind the other. -/
def setN (L : List Value) (o : Nat) : List Value → List Value
  | [] => L
  | v :: vs => setN (L.set o v) (o + 1) vs
theorem setN_length : ∀ (vs : List Value) (L : List Value) (o : Nat), (setN L o vs).length = L.length
  | [], L, o => rfl
  | v :: vs, L, o => by rw [setN, setN_length vs, List.length_set]
theorem setN_at : ∀ (vs : List Value) (L : List Value) (o m : Nat), m < L.length → (setN L o vs)[m]? = if o ≤ m ∧ m < o + vs.length then vs[m - o]? else L[m]?
  | [], L, o, m, hm => by
    rw [setN, if_neg]
    rintro ⟨h1, h2⟩
    simp at h2; omega
  | v :: vs, L, o, m, hm => by
    rw [setN, setN_at vs (L.set o v) (o + 1) m (by rw [List.length_set]; exact hm)]
    by_cases h1 : m = o
    · subst h1
      rw [if_neg (by omega), if_pos (by simp), List.getElem?_set_self hm, Nat.sub_self]
      rfl
    · rw [List.getElem?_set_ne (by omega)]
      by_cases h2 : o + 1 ≤ m ∧ m < o + 1 + vs.length
      · rw [if_pos h2, if_pos (by simp; omega), show m - o = (m - (o + 1)) + 1 by omega, List.getElem?_cons_succ]
      · rw [if_neg h2, if_neg (by simp; omega)]
theorem flat_setN {α : Type} {f : α → List Value} {z : Nat} (hf : ∀ a, (f a).length = z) {l : List α} {i p : Nat} {a b : α} {vs : List Value} (hz : p + vs.length ≤ z) (hi : l[i]? = some b)
    (ha : ∀ j, j < z → (f a)[j]? = if p ≤ j ∧ j < p + vs.length then vs[j - p]? else (f b)[j]?) : setN (flat f l) (i * z + p) vs = flat f (l.set i a) := by
  have hil := (List.getElem?_eq_some_iff.1 hi).1
  apply List.ext_getElem?
  intro m
  by_cases hm : m < l.length * z
  · have hz0 : 0 < z := Nat.pos_of_ne_zero (fun e => by subst e; omega)
    have hdm : m / z * z + m % z = m := by rw [Nat.mul_comm]; exact Nat.div_add_mod m z
    have hmz := Nat.mod_lt m hz0
    have hd : m / z < l.length := Nat.div_lt_of_lt_mul (by rw [Nat.mul_comm]; exact hm)
    rw [setN_at vs _ _ m (by rw [flat_length hf]; exact hm)]
    generalize m / z = q at *
    generalize m % z = r at *
    obtain ⟨x, hx⟩ : ∃ x, l[q]? = some x := ⟨_, List.getElem?_eq_getElem hd⟩
    subst hdm
    by_cases e : q = i
    · subst e
      have e2 : b = x := Option.some.inj (hi.symm.trans hx)
      subst e2
      rw [flat_at hf hi hmz, flat_at hf (List.getElem?_set_self hil) hmz, ha r hmz]
      by_cases h : p ≤ r ∧ r < p + vs.length
      · rw [if_pos h, if_pos (by omega)]
        congr 1; omega
      · rw [if_neg h, if_neg (by omega)]
    · have hne : (l.set i a)[q]? = some x := by rw [List.getElem?_set_ne (by omega)]; exact hx
      rw [flat_at hf hx hmz, flat_at hf hne hmz, if_neg]
      intro h
      rcases Nat.lt_or_gt_of_ne e with h2 | h2
      · have : q * z + z ≤ i * z := by have := Nat.mul_le_mul_right z (show q + 1 ≤ i by omega); rw [Nat.add_mul, Nat.one_mul] at this; exact this
        omega
      · have : i * z + z ≤ q * z := by have := Nat.mul_le_mul_right z (show i + 1 ≤ q by omega); rw [Nat.add_mul, Nat.one_mul] at this; exact this
        omega
  · rw [List.getElem?_eq_none (by rw [setN_length, flat_length hf]; omega), List.getElem?_eq_none (by rw [flat_length hf, List.length_set]; omega)]
/-- Cells of a block written one behind the other. -/
def setC (w : World) (g o : Nat) : List Value → World
  | [] => w
  | v :: vs => setC (w.setCell ⟨g, o, none⟩ v) g (o + 1) vs
theorem only_setC {g : Nat} : ∀ (vs : List Value) (w : World) (o : Nat), Only [g] w (setC w g o vs)
  | [], w, o => Only.refl _ _
  | v :: vs, w, o => ((Only.refl [g] w).setCell (.inl (by simp)) v).trans (only_setC vs _ _)
theorem setC_size {g : Nat} : ∀ (vs : List Value) (w : World) (o : Nat), (setC w g o vs).heap.size = w.heap.size
  | [], w, o => rfl
  | v :: vs, w, o => by rw [setC, setC_size vs]; simp
theorem RowK.setC {e : TypeId} {z : Nat} {A : Option Addr} {n c : Nat} {g o : Nat} (hA : A = some ⟨g, o, none⟩) : ∀ (vs : List Value) {w : World} {xs : List Value} (h : RowK w e z A n c xs) (j : Nat), j + vs.length ≤ n * z → RowK (setC w g (o + j) vs) e z A n c (setN xs j vs)
  | [], w, xs, h, j, hj => h
  | v :: vs, w, xs, h, j, hj => by
    have h1 := h.set_ hA j (by simp at hj; omega) v
    have h2 := RowK.setC hA vs h1 (j + 1) (by simp at hj; omega)
    rw [← Nat.add_assoc] at h2
    exact h2
/-- An element written from place p on. -/
theorem KRow.setC {α : Type} {f : α → List Value} {z : Nat} {w : World} {e : TypeId} {A : Option Addr} {c g o : Nat} {l : List α} (h : KRow w e z f A c l) (hf : ∀ a, (f a).length = z) (hA : A = some ⟨g, o, none⟩) {i p : Nat} {a b : α} {vs : List Value} (hz : p + vs.length ≤ z) (hi : l[i]? = some b)
    (ha : ∀ j, j < z → (f a)[j]? = if p ≤ j ∧ j < p + vs.length then vs[j - p]? else (f b)[j]?) : KRow (setC w g (o + (i * z + p)) vs) e z f A c (l.set i a) := by
  have hil := (List.getElem?_eq_some_iff.1 hi).1
  have hb : i * z + z ≤ l.length * z := by have := Nat.mul_le_mul_right z (show i + 1 ≤ l.length by omega); rw [Nat.add_mul, Nat.one_mul] at this; exact this
  have h1 := RowK.setC hA vs h (i * z + p) (by omega)
  rw [flat_setN hf hz hi ha] at h1
  unfold KRow
  rw [List.length_set]
  exact h1
theorem KRow.free {α : Type} {f : α → List Value} {z : Nat} {w : World} {e : TypeId} {A : Option Addr} {c g o : Nat} {l : List α} (h : KRow w e z f A c l) (hA : A = some ⟨g, o, none⟩) (j : Nat) : w.frozen? ⟨g, j, none⟩ = false := RowK.free h hA j
theorem set6_at (a b : VT) : ∀ j, j < 6 → (VT.cs a)[j]? = if 0 ≤ j ∧ j < 0 + a.cs.length then a.cs[j - 0]? else (VT.cs b)[j]? := by
  intro j hj
  rw [if_pos (by rw [csLen]; omega)]
  rfl
theorem set7_at (key : ByteArray) (a b : VT) : ∀ j, j < 7 → (fF (key, a))[j]? = if 1 ≤ j ∧ j < 1 + a.cs.length then a.cs[j - 1]? else (fF (key, b))[j]? := by
  intro j hj
  rw [csLen]
  rcases (by omega : j = 0 ∨ j = 1 ∨ j = 2 ∨ j = 3 ∨ j = 4 ∨ j = 5 ∨ j = 6) with rfl | rfl | rfl | rfl | rfl | rfl | rfl <;> rfl

/-! ### slices.Clone -/
/-- What slices.Clone gives: a row of its own. -/
def ClS {α : Type} (e : TypeId) (z : Nat) (f : α → List Value) (l : List α) (w : World) (x : Ending) (w' : World) : Prop :=
  ∃ (G : Option Addr) (d : Nat), x = .returned (.slice G l.length d) ∧ KRow w' e z f G d l ∧ (∀ k, k ∈ rowT G → w.heap.size ≤ k) ∧ Bel w w'
theorem clS_none {α : Type} {e : TypeId} {z : Nat} {f : α → List Value} {l : List α} {w : World} (hl : l = []) : ClS e z f l w (.returned (.slice none 0 0)) w := by
  subst hl
  exact ⟨none, 0, rfl, KRow.nil _ _ _ _, by simp [rowT], Bel.refl _⟩
theorem clS_some {α : Type} {e : TypeId} {z : Nat} {f : α → List Value} {l : List α} {w w2 : World} {A2 : Option Addr} {c2 n : Nat} {o : Obj} (hn : l.length = n) (hr : KRow w2 e z f A2 c2 (([] : List α) ++ l)) (ho : Only (rowT (some ⟨w.heap.size, 0, none⟩)) (w.alloc o) w2)
    (hk : ∀ k, k ∈ rowT A2 → k ∈ rowT (some ⟨w.heap.size, 0, none⟩) ∨ k = (w.alloc o).heap.size) : ClS e z f l w (.returned (.slice A2 n c2)) w2 := by
  subst hn
  refine ⟨A2, c2, rfl, hr, fun k hk' => ?_, bel_on (Bel.alloc w o) ho (fun k hk' => by simp [rowT] at hk'; omega)⟩
  rcases hk k hk' with h | h
  · simp [rowT] at h; omega
  · simp at h; omega
/-- What was there still is behind a new block. -/
theorem cell_ltC {w : World} {a : Addr} {v : Value} (h : w.cell? a = some v) : a.block < w.heap.size := by
  have : (w.cell? a).isSome := by rw [h]; rfl
  simp only [World.cell?] at this
  split at this
  · rename_i hh; exact (Array.getElem?_eq_some_iff.1 hh).1
  · simp at this
theorem Src.bel {α : Type} {f : α → List Value} {z : Nat} {w w' : World} {X : Option Addr} {m : List α} (h : Src w z f X m) (hb : Bel w w') : Src w' z f X m := fun hm => by
  obtain ⟨ad, rfl, hc⟩ := h hm
  refine ⟨ad, rfl, fun j u hu => ?_⟩
  have h1 := hc j u hu
  have := hb.block (ad.add j).block (cell_ltC h1)
  simp only [World.cell?, this] at h1 ⊢
  exact h1
theorem Src.alloc {α : Type} {f : α → List Value} {z : Nat} {w : World} {X : Option Addr} {m : List α} (h : Src w z f X m) (o : Obj) : Src (w.alloc o) z f X m := h.bel (Bel.alloc _ _)
set_option maxHeartbeats 400000 in
set_option maxRecDepth 100000 in
theorem cloneV_c (A : Option Addr) (c : Nat) (l : List VT) (w : World) (hs : Src w 6 VT.cs A l) (hn : l.length * 88 ≤ 140737488351232) :
    Calls Try.prog 29 #[.slice A l.length c] w (ClS 27 6 VT.cs l w) := by
  cases A with
  | none =>
    have hl : l = [] := by
      cases l with
      | nil => rfl
      | cons x l => obtain ⟨_, h, _⟩ := hs (by simp); cases h
    obtain ⟨n, hN⟩ : ∃ n, n = l.length := ⟨_, rfl⟩
    have HD := Lib.hid (clS_none (e := 27) (z := 6) (f := VT.cs) (w := w) hl)
    rw [← hN]
    clear hs hN hl
    have he : ∀ w : World, (binOp .eql 25 (.slice none n c) (.slice none 0 0)).run Try.prog w = .ok (.bool true) w := fun _ => rfl
    go_enter Try.func29, Try.ntmps29
    go_wp2_with fail
    go_ret
    exact HD.out
  | some g =>
    have HS := Lib.hid (hs.alloc (.cells #[] 27))
    have HR := Lib.hid (show KRow (w.alloc (.cells #[] 27)) 27 6 VT.cs (some ⟨w.heap.size, 0, none⟩) 0 ([] : List VT) from KRow.of_room (Blk.new w 27 []) 0 (by simp) (by simp))
    obtain ⟨n, hN⟩ : ∃ n, n = l.length := ⟨_, rfl⟩
    rw [← hN] at hn ⊢
    have HN := Lib.hid hN.symm
    have HM : Hid (0 + n ≤ maxLen ∧ (0 + n) * 88 ≤ 140737488355328) := Lib.hid (by unfold maxLen; omega)
    clear hs hN hn
    have he : ∀ w : World, (binOp .eql 25 (.slice (some g) n c) (.slice none 0 0)).run Try.prog w = .ok (.bool false) w := fun _ => rfl
    go_enter Try.func29, Try.ntmps29
    go_wp2_with (with_reducible refine wp_kAppend rfl (.tmp 5) (.tmp 6) 25 rfl 27 _ 6 88 VT.cs csLen csOne Try.underlying25 info_value cells_value (of_decide_eq_true rfl) (some ⟨w.heap.size, 0, none⟩) 0 ([] : List VT) 0 rfl rfl HR.out (some g) c l n HN.out rfl HS.out HM.out.1 HM.out.2 n (Nat.zero_add n).symm ?_; intro A2 c2 w2 HR2 hO2 HK2; have HO2 := Lib.hid hO2; clear hO2)
    go_ret
    exact clS_some HN.out HR2.out HO2.out HK2.out
set_option maxHeartbeats 400000 in
set_option maxRecDepth 100000 in
theorem cloneF_c (A : Option Addr) (c : Nat) (l : List (ByteArray × VT)) (w : World) (hs : Src w 7 fF A l) (hn : l.length * 104 ≤ 140737488351232) :
    Calls Try.prog 30 #[.slice A l.length c] w (ClS 49 7 fF l w) := by
  cases A with
  | none =>
    have hl : l = [] := by
      cases l with
      | nil => rfl
      | cons x l => obtain ⟨_, h, _⟩ := hs (by simp); cases h
    obtain ⟨n, hN⟩ : ∃ n, n = l.length := ⟨_, rfl⟩
    have HD := Lib.hid (clS_none (e := 49) (z := 7) (f := fF) (w := w) hl)
    rw [← hN]
    clear hs hN hl
    have he : ∀ w : World, (binOp .eql 22 (.slice none n c) (.slice none 0 0)).run Try.prog w = .ok (.bool true) w := fun _ => rfl
    go_enter Try.func30, Try.ntmps30
    go_wp2_with fail
    go_ret
    exact HD.out
  | some g =>
    have HS := Lib.hid (hs.alloc (.cells #[] 49))
    have HR := Lib.hid (show KRow (w.alloc (.cells #[] 49)) 49 7 fF (some ⟨w.heap.size, 0, none⟩) 0 ([] : List (ByteArray × VT)) from KRow.of_room (Blk.new w 49 []) 0 (by simp) (by simp))
    obtain ⟨n, hN⟩ : ∃ n, n = l.length := ⟨_, rfl⟩
    rw [← hN] at hn ⊢
    have HN := Lib.hid hN.symm
    have HM : Hid (0 + n ≤ maxLen ∧ (0 + n) * 104 ≤ 140737488355328) := Lib.hid (by unfold maxLen; omega)
    clear hs hN hn
    have he : ∀ w : World, (binOp .eql 22 (.slice (some g) n c) (.slice none 0 0)).run Try.prog w = .ok (.bool false) w := fun _ => rfl
    go_enter Try.func30, Try.ntmps30
    go_wp2_with (with_reducible refine wp_kAppend rfl (.tmp 5) (.tmp 6) 22 rfl 49 _ 7 104 fF fF_len fF_one Try.underlying22 info_field cells_field (of_decide_eq_true rfl) (some ⟨w.heap.size, 0, none⟩) 0 ([] : List (ByteArray × VT)) 0 rfl rfl HR.out (some g) c l n HN.out rfl HS.out HM.out.1 HM.out.2 n (Nat.zero_add n).symm ?_; intro A2 c2 w2 HR2 hO2 HK2; have HO2 := Lib.hid hO2; clear hO2)
    go_ret
    exact clS_some HN.out HR2.out HO2.out HK2.out
set_option maxHeartbeats 400000 in
set_option maxRecDepth 100000 in
theorem cloneS_c (A : Option Addr) (c : Nat) (l : List ByteArray) (w : World) (hs : Src w 1 fS A l) (hn : l.length * 16 ≤ 140737488351232) :
    Calls Try.prog 19 #[.slice A l.length c] w (ClS 9 1 fS l w) := by
  cases A with
  | none =>
    have hl : l = [] := by
      cases l with
      | nil => rfl
      | cons x l => obtain ⟨_, h, _⟩ := hs (by simp); cases h
    obtain ⟨n, hN⟩ : ∃ n, n = l.length := ⟨_, rfl⟩
    have HD := Lib.hid (clS_none (e := 9) (z := 1) (f := fS) (w := w) hl)
    rw [← hN]
    clear hs hN hl
    have he : ∀ w : World, (binOp .eql 23 (.slice none n c) (.slice none 0 0)).run Try.prog w = .ok (.bool true) w := fun _ => rfl
    go_enter Try.func19, Try.ntmps19
    go_wp2_with fail
    go_ret
    exact HD.out
  | some g =>
    have HS := Lib.hid (hs.alloc (.cells #[] 9))
    have HR := Lib.hid (show KRow (w.alloc (.cells #[] 9)) 9 1 fS (some ⟨w.heap.size, 0, none⟩) 0 ([] : List ByteArray) from KRow.of_room (Blk.new w 9 []) 0 (by simp) (by simp))
    obtain ⟨n, hN⟩ : ∃ n, n = l.length := ⟨_, rfl⟩
    rw [← hN] at hn ⊢
    have HN := Lib.hid hN.symm
    have HM : Hid (0 + n ≤ maxLen ∧ (0 + n) * 16 ≤ 140737488355328) := Lib.hid (by unfold maxLen; omega)
    clear hs hN hn
    have he : ∀ w : World, (binOp .eql 23 (.slice (some g) n c) (.slice none 0 0)).run Try.prog w = .ok (.bool false) w := fun _ => rfl
    go_enter Try.func19, Try.ntmps19
    go_wp2_with (with_reducible refine wp_kAppend rfl (.tmp 5) (.tmp 6) 23 rfl 9 _ 1 16 fS fS_len fS_one Try.underlying23 info_str cells_str (of_decide_eq_true rfl) (some ⟨w.heap.size, 0, none⟩) 0 ([] : List ByteArray) 0 rfl rfl HR.out (some g) c l n HN.out rfl HS.out HM.out.1 HM.out.2 n (Nat.zero_add n).symm ?_; intro A2 c2 w2 HR2 hO2 HK2; have HO2 := Lib.hid hO2; clear hO2)
    go_ret
    exact clS_some HN.out HR2.out HO2.out HK2.out
end Go.Proofs.Ytollcekcmnokaaa
