/-
  Slices of structs of the call's own, element by element: l is what they hold, f gives an element's z cells. No program is imported here.
-/
import Derived.Test.YteclclidibmajaaRowK
namespace Go.Proofs.Yteclclidibmajaa
open Go.RowKit
set_option linter.unusedVariables false

section
variable {α : Type} {f : α → List Value} {z : Nat}
def flat (f : α → List Value) (l : List α) : List Value := (l.map f).flatten
theorem flat_nil : flat f [] = [] := rfl
theorem flat_cons (a : α) (l : List α) : flat f (a :: l) = f a ++ flat f l := rfl
theorem flat_append (l m : List α) : flat f (l ++ m) = flat f l ++ flat f m := by simp [flat]
theorem flat_one (a : α) : flat f [a] = f a := by simp [flat]
theorem flat_length (hf : ∀ a, (f a).length = z) : ∀ l : List α, (flat f l).length = l.length * z
  | [] => by simp [flat]
  | a :: l => by rw [flat_cons, List.length_append, hf, flat_length hf l, List.length_cons, Nat.add_mul]; omega
theorem flat_take (hf : ∀ a, (f a).length = z) : ∀ (l : List α) (k : Nat), (flat f l).take (k * z) = flat f (l.take k)
  | [], k => by simp [flat]
  | a :: l, 0 => by simp [flat]
  | a :: l, k + 1 => by
    rw [flat_cons, List.take_succ_cons, flat_cons, Nat.add_mul, Nat.one_mul, Nat.add_comm, ← hf a, List.take_length_add_append, hf a, flat_take hf l k]
theorem flat_drop (hf : ∀ a, (f a).length = z) : ∀ (l : List α) (k : Nat), (flat f l).drop (k * z) = flat f (l.drop k)
  | [], k => by simp [flat]
  | a :: l, 0 => by simp [flat]
  | a :: l, k + 1 => by
    rw [flat_cons, List.drop_succ_cons, Nat.add_mul, Nat.one_mul, Nat.add_comm, ← hf a, List.drop_length_add_append, hf a, flat_drop hf l k]
theorem flat_at (hf : ∀ a, (f a).length = z) {l : List α} {i : Nat} {a : α} (h : l[i]? = some a) {j : Nat} (hj : j < z) : (flat f l)[i * z + j]? = (f a)[j]? := by
  obtain ⟨hi, hv⟩ := List.getElem?_eq_some_iff.1 h
  have e1 : ((flat f l).drop (i * z))[j]? = (flat f l)[i * z + j]? := List.getElem?_drop
  rw [← e1, flat_drop hf, List.drop_eq_getElem_cons hi, flat_cons, List.getElem?_append_left (by rw [hf]; exact hj), hv]
theorem flat_mem {l : List α} {u : Value} (h : u ∈ flat f l) : ∃ a, a ∈ l ∧ u ∈ f a := by
  unfold flat at h
  obtain ⟨x, hx, hu⟩ := List.mem_flatten.1 h
  obtain ⟨a, ha, rfl⟩ := List.mem_map.1 hx
  exact ⟨a, ha, hu⟩

/-- The slice '.slice A l.length c' holds l. -/
def KRow (w : World) (e : TypeId) (z : Nat) (f : α → List Value) (A : Option Addr) (c : Nat) (l : List α) : Prop := RowK w e z A l.length c (flat f l)
variable {w w' : World} {e : TypeId} {A : Option Addr} {c : Nat} {l : List α}
theorem KRow.nil (w : World) (e : TypeId) (z : Nat) (f : α → List Value) : KRow w e z f none 0 ([] : List α) := RowK.nil w e z
theorem KRow.lt (h : KRow w e z f A c l) : ∀ k, k ∈ rowT A → k < w.heap.size := RowK.lt h
theorem KRow.only {S : List Nat} (h : KRow w e z f A c l) (ho : Only S w w') (hS : ∀ k, k ∈ rowT A → k ∉ S) : KRow w' e z f A c l := RowK.only h ho hS
theorem KRow.alloc (h : KRow w e z f A c l) (o : Obj) : KRow (w.alloc o) e z f A c l := RowK.alloc h o
theorem KRow.drew (h : KRow w e z f A c l) : KRow w.drew e z f A c l := RowK.drew h
/-- An element's cells. -/
theorem KRow.at_ (h : KRow w e z f A c l) (hf : ∀ a, (f a).length = z) {i : Nat} {a : α} (ha : l[i]? = some a) (hz : 0 < z) : ∃ g o, A = some ⟨g, o, none⟩ ∧ g < w.heap.size ∧ ∀ j u, (f a)[j]? = some u → w.cell? ⟨g, o + i * z + j, none⟩ = some u := by
  have hi := (List.getElem?_eq_some_iff.1 ha).1
  obtain ⟨g, o, rfl, hg, hc⟩ := RowK.addr h (by have := h.le; omega)
  refine ⟨g, o, rfl, hg, fun j u hu => ?_⟩
  have hj : j < z := by rw [← hf a]; exact (List.getElem?_eq_some_iff.1 hu).1
  have := hc (i * z + j) u (by rw [flat_at hf ha hj]; exact hu)
  rwa [← Nat.add_assoc] at this
theorem KRow.addr (h : KRow w e z f A c l) (hl : 0 < c) : ∃ g o, A = some ⟨g, o, none⟩ ∧ g < w.heap.size := by
  obtain ⟨g, o, rfl, hg, _⟩ := RowK.addr h hl
  exact ⟨g, o, rfl, hg⟩
theorem KRow.first (h : KRow w e z f A c l) (hf : ∀ a, (f a).length = z) (k : Nat) (hk : k ≤ l.length) : KRow w e z f A c (l.take k) := by
  have := RowK.first h k hk
  rw [flat_take hf] at this
  unfold KRow
  rw [List.length_take, Nat.min_eq_left hk]
  exact this
theorem KRow.cut (h : KRow w e z f A c l) (hf : ∀ a, (f a).length = z) (k : Nat) (hk : k ≤ l.length) : KRow w e z f (cutA c k z A) (c - k) (l.drop k) := by
  have := RowK.cut h k hk
  rw [flat_drop hf] at this
  unfold KRow
  rw [List.length_drop]
  exact this
theorem KRow.of_room {g : Nat} {cs : List Value} (h : Blk w g e cs) (m : Nat) (hl : cs.length = m * z) (hm : m ≤ maxLen) : KRow w e z f (some ⟨g, 0, none⟩) m ([] : List α) := RowK.of_room h m hl hm
theorem KRow.of_blk {g : Nat} (h : Blk w g e (flat f l)) (hf : ∀ a, (f a).length = z) (hm : l.length ≤ maxLen) : KRow w e z f (some ⟨g, 0, none⟩) l.length l := RowK.of_blk h l.length (flat_length hf l) hm
/-- What may be appended: its cells lie behind its address. -/
def Src (w : World) (z : Nat) (f : α → List Value) (X : Option Addr) (m : List α) : Prop := 0 < m.length → ∃ ad, X = some ad ∧ ∀ j u, (flat f m)[j]? = some u → w.cell? (ad.add j) = some u
theorem KRow.src {m : List α} {X : Option Addr} {d : Nat} (h : KRow w e z f X d m) : Src w z f X m := fun hm => by
  obtain ⟨g, o, rfl, _, hc⟩ := RowK.addr h (by have := h.le; omega)
  exact ⟨_, rfl, fun j u hu => by rw [add_at]; exact hc j u hu⟩
theorem src_blk {g : Nat} {m : List α} {cs : List Value} (h : Blk w g e cs) (hc : cs = flat f m) : Src w z f (some ⟨g, 0, none⟩) m := fun _ => ⟨_, rfl, fun j u hu => by rw [add_at, Nat.zero_add, h.cell, hc]; exact hu⟩
end

section
variable {P : Program} {w : World} {ops : Array Oper} {rest : List Oper} {o : Oper} {a : Act} {Q : Exit → Act → World → Prop}
/-- An append, at the operation. -/
theorem wp_kAppend {α : Type} (hgd : o.guard = none) (s x : Operand) (t : TypeId) (ho : o.op = .call { callee := .builtin .append, args := #[s, x], argTypes := #[t, t] })
    (e : TypeId) (zv : Value) (z bytes : Nat) (f : α → List Value) (hf : ∀ a, (f a).length = z) (h1 : ∀ a u, u ∈ f a → u.oneCell' = true) (ht : P.underlying t = some (.slice e)) (hinfo : (P.info? e).map (fun i => (i.zero, i.size, i.bytes)) = some (some zv, z, bytes))
    (hzs : zv.cells.size = z) (hz0 : 0 < z) (A : Option Addr) (c : Nat) (l : List α) (n : Nat) (hn : l.length = n) (hs : a.eval s = .slice A n c) (hA : KRow w e z f A c l)
    (X : Option Addr) (d : Nat) (m : List α) (k : Nat) (hk : m.length = k) (hx : a.eval x = .slice X k d) (hr : Src w z f X m)
    (h63 : n + k ≤ maxLen) (hbytes : (n + k) * bytes ≤ 140737488355328) (N : Nat) (hN : N = n + k)
    (h : ∀ A' c' w', Hid (KRow w' e z f A' c' (l ++ m)) → Only (rowT A) w w' → Hid (∀ k, k ∈ rowT A' → k ∈ rowT A ∨ k = w.heap.size) → wpList P ops Q rest (a.put o.dst (.slice A' N c')) w') :
    wpList P ops Q (o :: rest) a w := by
  obtain ⟨i0, hi, hz, hsize, hby⟩ := info_parts hinfo
  subst hn hk
  refine wp_rowKAppend hgd s x t ho e i0 zv z bytes ht hi hz hsize hby hzs hz0 A l.length c (flat f l) hs hA X m.length d (flat f m) hx (flat_length hf m) hr (fun u hu => by obtain ⟨y, _, hy⟩ := flat_mem hu; exact h1 y u hy) h63 hbytes N hN ?_
  intro A' c' w' h2 h3 h4
  refine h A' c' w' (Lib.hid ?_) h3 h4
  have := h2.out
  unfold KRow
  rw [flat_append, List.length_append, ← hN]
  exact this
end
end Go.Proofs.Yteclclidibmajaa
