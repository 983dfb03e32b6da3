/-
  Contracts: the reference of layer 15: small functions of bytes and names.
  Comparing states of layer 15.
  Layer 17, plain data: where the calls that are to be linked stand; how much code there is at most; what Code answers.
  Layer 17, plain data: the code does not look at offsets and places. What Compile answers.
  Layer 17: what Code answers, as it lies in memory.
  The program of layer 17: a jump's target is set (a call, and the same call deferred).
-/
import Derived.Test.YtpcapmdfjmpdiaaGreatDoorZPure12
import Derived.Test.YtpcapmdfjmpdiaaGreatDoorZNpure
import Derived.Laws.StructEq
import Derived.Test.YtpcapmdfjmpdiaaGreatDoorZPk14
import Derived.Test.YtpcapmdfjmpdiaaGreatDoorZSs14
import Derived.Test.YtpcapmdfjmpdiaaGreatDoorZIq16
import Derived.Test.YtpcapmdfjmpdiaaGreatDoorZDb17
import Derived.Defers
namespace Go.Proofs.YtpcapmdfjmpdiaaGreatDoor
open Go.RowKit Go.BigFrame
set_option linter.unusedVariables false
set_option linter.unusedSimpArgs false
set_option maxRecDepth 100000

theorem ret_u8 {a b : Int} (h : a = b) : Ending.returned (.int .u8 a) = .returned (.int .u8 b) := by rw [h]
theorem lowB_nat (c : UInt8) : ((lowB c).toNat : Int) = if 65 ≤ c.toNat ∧ c.toNat ≤ 90 then (c.toNat : Int) + 32 else c.toNat := by
  unfold lowB
  split
  · rw [UInt8.toNat_add]
    show (((c.toNat + 32) % 256 : Nat) : Int) = _
    omega
  · rfl
/-- A state as a value. -/
abbrev stV (k : Int) (n a p : ByteArray) : Value := .agg #[.int .i64 k, .string n, .string a, .string p]
def HS.val (s : HS) : Value := stV s.c (ofL s.n) (ofL s.a) (ofL s.p)
/-- The answer is a state. -/
def SvV (v : Value) (w : World) (e : Ending) (w' : World) : Prop := e = .returned v ∧ Bel w w'
abbrev SvP (s : HS) (w : World) : Ending → World → Prop := SvV s.val w
theorem str_eq' (l m : List UInt8) : ((ofL l).toList == m) = decide (l = m) := by
  rw [ByteArray.toList_eq, Bool.eq_iff_iff, beq_iff_eq, decide_eq_true_iff]
  show l.toArray.toList = _ ↔ _
  simp
theorem ltrB_eq (c : UInt8) : ltrB c = (decide ((97 : Int) ≤ ((lowB c).toNat : Int)) && decide (((lowB c).toNat : Int) ≤ 122)) := by
  unfold ltrB
  rw [Bool.eq_iff_iff]
  simp
  omega
theorem spcB_iff (c : UInt8) : spcB c = true ↔ c.toNat = 32 ∨ c.toNat = 9 ∨ c.toNat = 10 ∨ c.toNat = 12 ∨ c.toNat = 13 := by
  unfold spcB
  simp only [Bool.or_eq_true, beq_iff_eq, ← UInt8.toNat_inj]
  simp
theorem one_str (d : UInt8) (W : World) : (convert 85 9 (.slice (some ⟨W.heap.size, 0, none⟩) 1 1)).run Tryz.prog (W.alloc (.cells #[.int .u8 d.toNat] 5)) = .ok (.string ⟨#[d]⟩) (W.alloc (.cells #[.int .u8 d.toNat] 5)) :=
  run_string_of (l := [d]) Tryz.underlying85 Tryz.underlying5 Tryz.underlying9 (Reads.of_blk (Blk.new W 5 (vbs [d])) 0 1 (by simp [vbs]) (Nat.lt_succ_self _)) 1
theorem ofL_snoc (s : List UInt8) (d : UInt8) : ofL s ++ ⟨#[d]⟩ = ofL (s ++ [d]) := by
  apply toL_inj
  show (ofL s ++ ⟨#[d]⟩ : ByteArray).data.toList = _
  rw [ByteArray.data_append]
  simp [toL, ofL]
theorem ofL_list (p : List UInt8) : (ofL p).toList = p := by rw [ByteArray.toList_eq]; simp [ofL]
theorem u8_iff (c k : UInt8) : c = k ↔ (c.toNat : Int) = (k.toNat : Int) := by rw [← UInt8.toNat_inj]; omega
theorem blk_at1h (w : World) (o : Obj) (T : TypeId) (L : List Value) : Blk ((w.alloc o).alloc (.cells L.toArray T)) (w.heap.size + 1) T L := by
  have := Blk.new (w.alloc o) T L
  rwa [show (w.alloc o).heap.size = w.heap.size + 1 by simp] at this
theorem Blk.belh {w w' : World} {g : Nat} {t : TypeId} {cs : List Value} (h : Blk w g t cs) (hb : Bel w w') : Blk w' g t cs := h.below hb h.lt
theorem cells4 {w : World} {g : Nat} {T : TypeId} {a0 a1 a2 a3 : Value} (h : Blk w g T [a0, a1, a2, a3]) :
    w.cell? ⟨g, 0, none⟩ = some a0 ∧ w.cell? ⟨g, 1, none⟩ = some a1 ∧ w.cell? ⟨g, 2, none⟩ = some a2 ∧ w.cell? ⟨g, 3, none⟩ = some a3 := ⟨h.cell 0, h.cell 1, h.cell 2, h.cell 3⟩
theorem frees4 {w : World} {g : Nat} {T : TypeId} {cs : List Value} (h : Blk w g T cs) :
    w.frozen? ⟨g, 0, none⟩ = false ∧ w.frozen? ⟨g, 1, none⟩ = false ∧ w.frozen? ⟨g, 2, none⟩ = false ∧ w.frozen? ⟨g, 3, none⟩ = false := ⟨h.free 0, h.free 1, h.free 2, h.free 3⟩
theorem ofL_nil : ofL [] = ⟨#[]⟩ := rfl
theorem pt {p q : List UInt8} (h : p = q) : ((ofL p).toList == q) = true := by rw [str_eq']; exact decide_eq_true h
theorem ct {c k : UInt8} (h : c = k) (m : Int) (hm : (k.toNat : Int) = m) : ((c.toNat : Int) == m) = true := by subst h; rw [hm]; exact beq_self_eq_true m
theorem cf {c k : UInt8} (h : ¬ c = k) (m : Int) (hm : (k.toNat : Int) = m) : ((c.toNat : Int) == m) = false := by
  rw [beq_eq_false_iff_ne, ← hm]
  intro e
  exact h ((u8_iff c k).2 e)
/-! ### Drawn regions of which some operations write to what was made within them -/
section
variable {P : Program} {ops : Array Oper} {Q : Exit → Act → World → Prop} {S : World → Prop}
end
end Go.Proofs.YtpcapmdfjmpdiaaGreatDoor

namespace Go.Proofs.YtpcapmdfjmpdiaaGreatDoor
open Go.RowKit Go.BigFrame
set_option linter.unusedVariables false
set_option linter.unusedSimpArgs false
set_option maxRecDepth 100000

/-- Does the comparison of two states say yes? -/
def stB (s t : HS) : Bool := decide (s.c = t.c) && (decide (s.n = t.n) && (decide (s.a = t.a) && decide (s.p = t.p)))
theorem stB_iff (s t : HS) : stB s t = true ↔ s = t := by
  unfold stB
  simp only [Bool.and_eq_true, decide_eq_true_eq]
  constructor
  · rintro ⟨h1, h2, h3, h4⟩; exact HS.ext_ h1 h2 h3 h4
  · rintro rfl; exact ⟨rfl, rfl, rfl, rfl⟩
theorem st_eql (s t : HS) (w : World) : (binOp .eql 74 (.agg #[.int .i64 (s.c : Nat), .string (ofL s.n), .string (ofL s.a), .string (ofL s.p)]) (.agg #[.int .i64 (t.c : Nat), .string (ofL t.n), .string (ofL t.a), .string (ofL t.p)])).run Tryz.prog w = .ok (.bool (stB s t)) w := by
  have u3 := Tryz.underlying3
  have a3 := Tryz.isAgg3
  have z3 := Tryz.sizeOf3
  have u9 := Tryz.underlying9
  have a9 := Tryz.isAgg9
  have z9 := Tryz.sizeOf9
  have hS : Tryz.prog.underlying 74 = some (.struct (Tryz.prog.fieldsOf 74)) := by kernel_rfl
  have hp : Tryz.prog.stoodInHeld 74 = false := by kernel_rfl
  rw [run_eql_struct, show (10000 : Nat) = 9999 + 1 from rfl, run_equalIn_agg w 9999 74 _ _ hS hp]
  simp only [Program.fieldsOf, Tryz.underlying74]
  go_simp
  unfold stB
  simp only [ofL_list]
  have hc : ((s.c : Int) = (t.c : Int)) ↔ s.c = t.c := by omega
  by_cases h1 : s.c = t.c <;> by_cases h2 : s.n = t.n <;> by_cases h3 : s.a = t.a <;> by_cases h4 : s.p = t.p <;> simp [h1, h2, h3, h4, hc]
theorem st_guard (op : BinOp) (x y : Operand) (xs ys : Array Value) (w : World) : (eqGuard op 74 x y (.agg xs) (.agg ys)).run Tryz.prog w = .ok () w := run_eqGuard_agg w op 74 x y xs ys (by kernel_rfl)
end Go.Proofs.YtpcapmdfjmpdiaaGreatDoor

namespace Go.Proofs.YtpcapmdfjmpdiaaGreatDoor
open NT
set_option linter.unusedVariables false
set_option linter.unusedSimpArgs false

theorem listK_lt_of : ∀ (l : List NT), (∀ x, x ∈ l → ∀ a k, k ∈ nodeK a x → k.1 < a + siz x) → ∀ a k, k ∈ listK a l → k.1 < a + sizs l
  | [], _, a, k, h => by rw [listK_nil] at h; cases h
  | x :: l, hm, a, k, h => by
    rw [listK_cons] at h
    rw [sizs_cons]
    rcases List.mem_append.1 h with h | h
    · have := hm x (by simp) a k h; omega
    · have := listK_lt_of l (fun y hy => hm y (by simp [hy])) (a + siz x) k h; omega
theorem nodeK_lt (t : NT) : ∀ a k, k ∈ nodeK a t → k.1 < a + siz t := by
  refine ind (M := fun t => ∀ a k, k ∈ nodeK a t → k.1 < a + siz t) (fun t hb hl a k h => ?_) t
  have h1 := listK_lt_of t.b hb (a + 1) k
  have h2 := listK_lt_of t.l hl (a + 2 + sizs t.b) k
  rw [nodeK_eq] at h
  rw [siz_eq]
  split at h
  · rename_i g
    rw [if_pos g]
    rcases List.mem_append.1 h with h | h
    · have := h1 h; omega
    · split at h
      · rename_i ge
        rw [if_pos ge]
        have := h2 h; omega
      · cases h
  split at h
  · rename_i g2 g
    rw [if_neg g2, if_pos g]
    have := h1 h; omega
  split at h
  · rename_i g2 g3 g
    rw [if_neg g2, if_neg g3, if_pos (by omega)]
    rw [List.mem_singleton] at h
    subst h
    show a < a + 1
    omega
  · cases h
theorem listK_lt (l : List NT) (a : Nat) (k : CK) (h : k ∈ listK a l) : k.1 < a + sizs l := listK_lt_of l (fun x _ => nodeK_lt x) a k h
theorem defsK_lt : ∀ (ds : List (NT × List Nat)) (a : Nat) (k : CK), k ∈ defsK ds a → k.1 < a + dsz ds
  | [], a, k, h => by cases h
  | d :: r, a, k, h => by
    unfold defsK at h
    unfold dsz
    rcases List.mem_append.1 h with h | h
    · have := listK_lt d.1.b a k h; omega
    · have := defsK_lt r _ k h; omega
theorem codeZ_len (l : List NT) (ds : List (NT × List Nat)) (es : List Nat) : (codeZ l ds es).length = sizs l + 1 + dsz ds := by
  unfold codeZ
  rw [List.length_append, List.length_cons, defsC_len, (listC_ok _ l 0 _).len]
  omega
theorem callsZ_lt {l : List NT} {ds : List (NT × List Nat)} {es : List Nat} {k : CK} (h : k ∈ callsZ l ds) : k.1 < (codeZ l ds es).length := by
  rw [codeZ_len]
  unfold callsZ at h
  rcases List.mem_append.1 h with h | h
  · have := listK_lt l 0 k h; omega
  · have := defsK_lt ds _ k h; omega
theorem sizs_le {n : Bool} {l : List NT} (h : ∀ x, x ∈ l → Wk n x) : sizs l ≤ 3 * tots l := by
  have h1 := (wk_szrs h).1
  have h2 := (szrs_bound l).1
  omega
theorem dsz_le : ∀ {l : List NT}, (∀ x, x ∈ l → Wk false x) → ∀ es, dsz (dfs l es) ≤ 3 * tots l
  | [], _, es => Nat.zero_le _
  | x :: l, h, es => by
    have h1 := dsz_le (l := l) (fun y hy => h y (by simp [hy])) (es.drop (prf x))
    have h2 := sizs_le (h x (by simp)).body
    have h3 := tot_eq x
    rw [dfs_cons, tots_cons]
    split
    · show sizs x.b + 1 + dsz _ ≤ _
      omega
    · omega
/-- What Code answers: the code, the offset, the error's number. -/
def codeN (l : List NT) : List IN × Int × Nat := if (checkN l).2 ≠ 0 then ([], checkN l) else if (inferI l).2.2 ≠ 0 then ([], (inferI l).2) else (codeW l (inferI l).1, 0, 0)
end Go.Proofs.YtpcapmdfjmpdiaaGreatDoor

namespace Go.Proofs.YtpcapmdfjmpdiaaGreatDoor
open NT
set_option linter.unusedVariables false
set_option linter.unusedSimpArgs false

theorem strip_k (t : NT) : t.strip.k = t.k := by cases t; simp [strip, k]
theorem strip_s (t : NT) : t.strip.s = t.s := by cases t; simp [strip, s]
theorem strip_p (t : NT) : t.strip.p = t.p := by cases t; simp [strip, p]
theorem strip_h (t : NT) : t.strip.h = t.h := by cases t; simp [strip, h]
theorem strip_e (t : NT) : t.strip.e = t.e := by cases t; simp [strip, e]
theorem strip_b (t : NT) : t.strip.b = strips t.b := by cases t; simp [strip, b]
theorem strip_l (t : NT) : t.strip.l = strips t.l := by cases t; simp [strip, l]
theorem listC_strips_of (ad : ByteArray → Nat) (l : List NT) (h : ∀ x, x ∈ l → ∀ a es, nodeC ad a es x.strip = nodeC ad a es x) : ∀ a es, listC ad a es (strips l) = listC ad a es l := by
  induction l with
  | nil => intro a es; rw [strips_nil]
  | cons x l ih =>
    intro a es
    rw [strips_cons, listC_cons, listC_cons, h x (by simp) a es]
    unfold seqC
    simp only [ih (fun y hy => h y (by simp [hy]))]
theorem nodeC_strip (ad : ByteArray → Nat) (t : NT) : ∀ a es, nodeC ad a es t.strip = nodeC ad a es t := by
  refine ind (M := fun t => ∀ a es, nodeC ad a es t.strip = nodeC ad a es t) (fun t hb hl a es => ?_) t
  rw [nodeC_eq, nodeC_eq, strip_k, strip_s, strip_p, strip_h, strip_e, strip_b, strip_l]
  simp only [listC_strips_of ad t.b hb, listC_strips_of ad t.l hl]
theorem listC_strips (ad : ByteArray → Nat) (l : List NT) (a : Nat) (es : List Nat) : listC ad a es (strips l) = listC ad a es l := listC_strips_of ad l (fun x _ => nodeC_strip ad x) a es
theorem sizs_strips (l : List NT) : sizs (strips l) = sizs l := by
  rw [← (listC_ok Z0 (strips l) 0 []).len, listC_strips, (listC_ok Z0 l 0 []).len]
theorem prns_strips_of : ∀ (l : List NT), (∀ x, x ∈ l → x.strip.prn = x.prn) → prns (strips l) = prns l
  | [], _ => by rw [strips_nil]
  | x :: l, h => by rw [strips_cons, prns_cons, prns_cons, h x (by simp), prns_strips_of l (fun y hy => h y (by simp [hy]))]
theorem prn_strip (t : NT) : t.strip.prn = t.prn := by
  refine ind (M := fun t => t.strip.prn = t.prn) (fun t hb hl => ?_) t
  rw [prn_eq, prn_eq, strip_k, strip_e, strip_b, strip_l, prns_strips_of t.b hb, prns_strips_of t.l hl]
theorem prf_strip (t : NT) : prf t.strip = prf t := by
  unfold prf
  rw [strip_k, strip_b, prns_strips_of t.b (fun x _ => prn_strip x), prn_strip]
theorem dfs_strips : ∀ (l : List NT) (es : List Nat), dfs (strips l) es = (dfs l es).map fun d => (d.1.strip, d.2)
  | [], es => by rw [strips_nil]; rfl
  | x :: l, es => by
    rw [strips_cons, dfs_cons, dfs_cons, strip_k, prf_strip, dfs_strips l]
    split
    · rw [List.map_cons]
    · rfl
theorem mainE_cons (x : NT) (l : List NT) (es : List Nat) : mainE (x :: l) es = if x.k = 6 then mainE l (es.drop (prf x)) else es.take (prf x) ++ mainE l (es.drop (prf x)) := by rw [mainE]
theorem mainE_strips : ∀ (l : List NT) (es : List Nat), mainE (strips l) es = mainE l es
  | [], es => by rw [strips_nil]
  | x :: l, es => by rw [strips_cons, mainE_cons, mainE_cons, strip_k, prf_strip, mainE_strips l]
theorem adr_strip : ∀ (ds : List (NT × List Nat)) (a : Nat) (nm : ByteArray), adr (ds.map fun d => (d.1.strip, d.2)) a nm = adr ds a nm
  | [], _, _ => rfl
  | d :: r, a, nm => by
    rw [List.map_cons]
    unfold adr
    rw [adr_strip r, strip_s, strip_b, sizs_strips]
theorem defsC_strip (ad : ByteArray → Nat) : ∀ (ds : List (NT × List Nat)) (a : Nat), defsC ad (ds.map fun d => (d.1.strip, d.2)) a = defsC ad ds a
  | [], _ => rfl
  | d :: r, a => by
    rw [List.map_cons]
    unfold defsC
    rw [defsC_strip ad r, strip_b, sizs_strips, listC_strips]
theorem codeW_strips (l : List NT) (es : List Nat) : codeW (strips l) es = codeW l es := by
  have h : adr (dfs (strips l) es) (sizs (strips l) + 1) = adr (dfs l es) (sizs l + 1) := by
    funext nm
    rw [dfs_strips, adr_strip, sizs_strips]
  unfold codeW
  rw [h, dfs_strips, mainE_strips, listC_strips, defsC_strip, sizs_strips]
theorem codeW_ers (l : List NT) (es : List Nat) : codeW (ers l) es = codeW l es := by rw [← codeW_strips (ers l), strips_ers, codeW_strips]
theorem codeN_ers (l : List NT) : codeN (ers l) = codeN l := by unfold codeN; rw [checkN_ers, inferI_ers, codeW_ers]
end Go.Proofs.YtpcapmdfjmpdiaaGreatDoor

namespace Go.Proofs.YtpcapmdfjmpdiaaGreatDoor
open Go.RowKit Go.BigFrame NT
set_option linter.unusedVariables false
set_option linter.unusedSimpArgs false

/-- What Code answers. -/
def CdP (r : List IN × Int × Nat) (w : World) (e : Ending) (w' : World) : Prop := Bel w w' ∧ ∃ A c, e = .returned (.tuple #[.slice A r.1.length c, .int .i64 r.2.1, .int .i64 (r.2.2 : Nat)]) ∧ Hid (Ir w w' A c r.1)
theorem CdP.nil {a : Int} {k : Nat} {w : World} {e : Ending} {w' : World} (he : e = .returned (.tuple #[.slice none 0 0, .int .i64 a, .int .i64 (k : Nat)])) (hb : Bel w w') : CdP ([], a, k) w e w' := ⟨hb, none, 0, he, Lib.hid ⟨KRow.nil _ _ _ _, by simp [rowT]⟩⟩
end Go.Proofs.YtpcapmdfjmpdiaaGreatDoor

namespace Go.Proofs.YtpcapmdfjmpdiaaGreatDoor
open Go.RowKit Go.BigFrame NT
set_option linter.unusedVariables false
set_option linter.unusedSimpArgs false
set_option maxRecDepth 100000

theorem flat_set17 {α : Type} {f : α → List Value} {z : Nat} (hf : ∀ a, (f a).length = z) : ∀ {l : List α} {i j : Nat} {b : α} {v : Value} {a : α}, l[i]? = some a → (f a).set j v = f b → j < z → (flat f l).set (i * z + j) v = flat f (l.set i b)
  | [], i, j, b, v, a, h, _, _ => by simp at h
  | x :: l, 0, j, b, v, a, h, hs, hj => by
    simp at h; subst h
    rw [Nat.zero_mul, Nat.zero_add, List.set_cons_zero, flat_cons, flat_cons, List.set_append_left _ _ (by rw [hf]; exact hj), hs]
  | x :: l, i + 1, j, b, v, a, h, hs, hj => by
    rw [List.set_cons_succ, flat_cons, flat_cons, Nat.add_mul, Nat.one_mul, show i * z + z + j = (f x).length + (i * z + j) by rw [hf]; omega]
    rw [List.set_append_right _ _ (by omega), Nat.add_sub_cancel_left, flat_set17 hf (by simpa using h) hs hj]
theorem krow_setCell17 {α : Type} {f : α → List Value} {z : Nat} {w : World} {e : TypeId} {c g o : Nat} {l : List α} (h : KRow w e z f (some ⟨g, o, none⟩) c l) (hf : ∀ a, (f a).length = z) {i j : Nat} {a b : α} {v : Value} (hi : l[i]? = some a) (hj : j < z) (hs : (f a).set j v = f b) :
    KRow (w.setCell ⟨g, o + i * z + j, none⟩ v) e z f (some ⟨g, o, none⟩) c (l.set i b) := by
  have hil := (List.getElem?_eq_some_iff.1 hi).1
  have hm : i * z + z ≤ l.length * z := by rw [← Nat.succ_mul]; exact Nat.mul_le_mul_right _ hil
  have := RowK.set_ h rfl (i * z + j) (by omega) v
  rw [flat_set17 hf hi hs hj, ← Nat.add_assoc] at this
  unfold KRow
  rw [List.length_set]
  exact this
theorem stT_set : ∀ {L : List IN} {i t : Nat} {x : IN}, L[i]? = some x → stT L i t = L.set i { x with t := t }
  | [], i, t, x, h => by simp at h
  | y :: L, 0, t, x, h => by simp at h; subst h; rfl
  | y :: L, i + 1, t, x, h => by
    have := stT_set (L := L) (i := i) (t := t) (x := x) (by simpa using h)
    exact congrArg (y :: ·) this
/-- A target is written, and the assembler holds it. -/
theorem As.aim {Q : Nat → Prop} {rr : Nat} {w : World} {v : AV} (h : As Q rr w v) {i t g o : Nat} (hi : i < v.L.length) (hA : v.A = some ⟨g, o, none⟩) :
    Ev17 Q rr w v (w.setCell ⟨g, o + i * 6 + 5, none⟩ (.int .i64 (t : Nat))) { v with L := stT v.L i t } := by
  have hx := List.getElem?_eq_getElem hi
  have hS := stT_set (t := t) hx
  have hg : g ∈ rowT v.A := mem_rowT.2 ⟨_, hA, rfl⟩
  have hO : Only (rowT v.A) w (w.setCell ⟨g, o + i * 6 + 5, none⟩ (.int .i64 (t : Nat))) := (Only.refl _ _).setCell (.inl hg) _
  refine ⟨⟨?_, ?_, ?_, ?_, fun k hk => ⟨by have := hO.size; have := (h.fr k hk).1; omega, (h.fr k hk).2⟩⟩, hO.more (fun k hk => by simp [hk]), fun k hk => .inl hk, fun k hk => .inl hk⟩
  · have := h.blk.only hO h.ne_ra
    show Blk _ rr _ [.slice v.A (stT v.L i t).length v.c, _, _, _]
    rw [stT_len]
    exact this
  · show KRow _ _ 6 IN.cs v.A v.c (stT v.L i t)
    rw [hS]
    have hc := h.code
    rw [hA] at hc ⊢
    exact krow_setCell17 hc IN.cs_len hx (by decide) rfl
  · exact h.escs.only hO (fun k hk hm => h.ne_ea k hk (by simp [hm]))
  · exact h.calls.only hO h.ne_ak
section
variable {Q : Nat → Prop} {rr : Nat} {w : World} {v : AV}
set_option maxHeartbeats 6400000 in
theorem aim_c (h : As Q rr w v) (i : Nat) (hi : i < v.L.length) (hle : v.L.length ≤ 100000) :
    Calls Tryz.prog 124 #[.pointer (some ⟨rr, 0, none⟩), .int .i64 (i : Nat)] w (AsP Q rr w v (.tuple #[]) (stT v.L i v.L.length) v.es v.ks) := by
  obtain ⟨g, o, hA, _, _⟩ := RowK.addr h.code (by have := h.code.le; omega)
  obtain ⟨n, hn⟩ : ∃ n, n = v.L.length := ⟨_, rfl⟩
  have HH := Lib.hid h
  have HI := Lib.hid hi
  have HA := Lib.hid hA
  have hrl := h.blk.lt
  have hc0 := h.blk.cell 0
  simp only [List.getElem?_cons_zero, hA, ← hn] at hc0
  have hx := h.code.at_ IN.cs_len (List.getElem?_eq_getElem hi) (by decide)
  have hfr := fun j => h.code.free hA j
  obtain ⟨g', o', hA', _, hx5⟩ := hx
  rw [hA] at hA'
  injection hA' with hA'
  injection hA' with e1 e2
  subst e1 e2
  have hx5 := hx5 5 _ rfl
  have hgr := h.ne_ra
  rw [hA, rowT_some, List.mem_singleton] at hgr
  replace hgr : rr ≠ g := hgr
  have hW0 := Lib.hid (show Bel w w.drew from Bel.drew16 _)
  rw [← hn] at hi hle ⊢
  have HN := Lib.hid hn
  clear h hA hn
  go_enter Tryz.func124, Tryz.ntmps124
  go_wp2_with fail
  refine region_begin (T := [g]) (by kernel_rfl) ?_
  have c0 : ∀ X : Later [g] w.drew, X.w.cell? ⟨rr, 0, none⟩ = some (.slice (some ⟨g, o, none⟩) n v.c) := fun X => (cell_only X.h (by exact hrl) (by simpa using hgr) 0).trans hc0
  refine region_seg [true, true, true, true, true, true, true, true, true, true, true, true] 1 (by kernel_rfl) (by kernel_rfl) (by kernel_rfl) rfl (fun _ _ d _ _ h => by cases d <;> exact h) ?_
  repeat (first | with_reducible refine wpMask_pass ?_ | (refine wpMask_want (by rfl) (fun K hK => ?_); go_big_quiet_op; refine hK _ ?_; clear hK K))
  with_reducible refine wpMask_nil ?_
  clear c0
  refine region_store 12 (w1 := w.drew.setCell ⟨g, o + i * 6 + 5, none⟩ (.int .i64 (n : Nat))) (by kernel_rfl) rfl (by rfl) (by go_simp) ((Only.refl _ _).setCell (.inl (by simp)) _) ?_
  simp only [List.getElem_toArray, List.getElem_cons_zero, List.getElem_cons_succ, Act.put, List.setIfInBounds_toArray, List.set_cons_zero, List.set_cons_succ]
  refine region_end (by kernel_rfl) ?_
  go_end0
  exact ⟨rfl, _, Lib.hid (((Ev17.refl HH.out).bel hW0.out).trans ((HH.out.bel hW0.out).aim HI.out HA.out)), Lib.hid ⟨by rw [HN.out], rfl, rfl, rfl⟩⟩
set_option maxHeartbeats 6400000 in
theorem aimD_c (u : FrameMode) (h : As Q rr w v) (i : Nat) (hi : i < v.L.length) (hle : v.L.length ≤ 100000) :
    CallsD Tryz.prog 124 #[.pointer (some ⟨rr, 0, none⟩), .int .i64 (i : Nat)] u w fun e u' w' => u' = u ∧ AsP Q rr w v (.tuple #[]) (stT v.L i v.L.length) v.es v.ks e w' := by
  obtain ⟨g, o, hA, _, _⟩ := RowK.addr h.code (by have := h.code.le; omega)
  obtain ⟨n, hn⟩ : ∃ n, n = v.L.length := ⟨_, rfl⟩
  have HH := Lib.hid h
  have HI := Lib.hid hi
  have HA := Lib.hid hA
  have hrl := h.blk.lt
  have hc0 := h.blk.cell 0
  simp only [List.getElem?_cons_zero, hA, ← hn] at hc0
  have hx := h.code.at_ IN.cs_len (List.getElem?_eq_getElem hi) (by decide)
  have hfr := fun j => h.code.free hA j
  obtain ⟨g', o', hA', _, hx5⟩ := hx
  rw [hA] at hA'
  injection hA' with hA'
  injection hA' with e1 e2
  subst e1 e2
  have hx5 := hx5 5 _ rfl
  have hgr := h.ne_ra
  rw [hA, rowT_some, List.mem_singleton] at hgr
  replace hgr : rr ≠ g := hgr
  have hW0 := Lib.hid (show Bel w w.drew from Bel.drew16 _)
  rw [← hn] at hi hle ⊢
  have HN := Lib.hid hn
  clear h hA hn
  go_enter_d Tryz.func124, Tryz.ntmps124
  go_wp2_with fail
  refine region_begin (T := [g]) (by kernel_rfl) ?_
  have c0 : ∀ X : Later [g] w.drew, X.w.cell? ⟨rr, 0, none⟩ = some (.slice (some ⟨g, o, none⟩) n v.c) := fun X => (cell_only X.h (by exact hrl) (by simpa using hgr) 0).trans hc0
  refine region_seg [true, true, true, true, true, true, true, true, true, true, true, true] 1 (by kernel_rfl) (by kernel_rfl) (by kernel_rfl) rfl (fun _ _ d _ _ h => by cases d <;> exact h) ?_
  repeat (first | with_reducible refine wpMask_pass ?_ | (refine wpMask_want (by rfl) (fun K hK => ?_); go_big_quiet_op; refine hK _ ?_; clear hK K))
  with_reducible refine wpMask_nil ?_
  clear c0
  refine region_store 12 (w1 := w.drew.setCell ⟨g, o + i * 6 + 5, none⟩ (.int .i64 (n : Nat))) (by kernel_rfl) rfl (by rfl) (by go_simp) ((Only.refl _ _).setCell (.inl (by simp)) _) ?_
  simp only [List.getElem_toArray, List.getElem_cons_zero, List.getElem_cons_succ, Act.put, List.setIfInBounds_toArray, List.set_cons_zero, List.set_cons_succ]
  refine region_end (by kernel_rfl) ?_
  go_end0
  exact ⟨rfl, _, Lib.hid (((Ev17.refl HH.out).bel hW0.out).trans ((HH.out.bel hW0.out).aim HI.out HA.out)), Lib.hid ⟨by rw [HN.out], rfl, rfl, rfl⟩⟩
end
end Go.Proofs.YtpcapmdfjmpdiaaGreatDoor
