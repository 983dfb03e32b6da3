/-
  Nodes of templates as they lie in memory: a tree with its addresses; what is left without the addresses. No program is imported here.
-/
import Derived.Test.YteclclidibmajaaOpen
import Derived.Test.YteclclidibmajaaLxy
import Derived.Lib.SmallJoins
namespace Go.Proofs.Yteclclidibmajaa
open Go.Joins Go.ChangeShapes Go.WideShapes Go.Deep Go.RowKit
set_option linter.unusedVariables false

/-- A node: kind, offset, string, path, has it a path, has it an else branch, where its body lies (address, capacity) and what it is, where its else branch lies and what it is. -/
inductive NT where
  | mk (k a : Int) (s p : ByteArray) (h e : Bool) (A : Option Addr) (c : Nat) (b : List NT) (B : Option Addr) (d : Nat) (l : List NT) : NT
namespace NT
def k : NT → Int | mk k _ _ _ _ _ _ _ _ _ _ _ => k
def a : NT → Int | mk _ a _ _ _ _ _ _ _ _ _ _ => a
def s : NT → ByteArray | mk _ _ s _ _ _ _ _ _ _ _ _ => s
def p : NT → ByteArray | mk _ _ _ p _ _ _ _ _ _ _ _ => p
def h : NT → Bool | mk _ _ _ _ h _ _ _ _ _ _ _ => h
def e : NT → Bool | mk _ _ _ _ _ e _ _ _ _ _ _ => e
def A : NT → Option Addr | mk _ _ _ _ _ _ A _ _ _ _ _ => A
def c : NT → Nat | mk _ _ _ _ _ _ _ c _ _ _ _ => c
def b : NT → List NT | mk _ _ _ _ _ _ _ _ b _ _ _ => b
def B : NT → Option Addr | mk _ _ _ _ _ _ _ _ _ B _ _ => B
def d : NT → Nat | mk _ _ _ _ _ _ _ _ _ _ d _ => d
def l : NT → List NT | mk _ _ _ _ _ _ _ _ _ _ _ l => l
/-- The eight cells. -/
def cs (t : NT) : List Value := [.int .i64 t.k, .int .i64 t.a, .string t.s, .string t.p, .bool t.h, .bool t.e, .slice t.A t.b.length t.c, .slice t.B t.l.length t.d]
def val (t : NT) : Value := .agg t.cs.toArray
theorem cs_len (t : NT) : t.cs.length = 8 := rfl
theorem cs_one (t : NT) (u : Value) (h : u ∈ t.cs) : u.oneCell' = true := by
  simp only [cs, List.mem_cons, List.not_mem_nil, or_false] at h
  rcases h with rfl | rfl | rfl | rfl | rfl | rfl | rfl | rfl <;> rfl
theorem size_b {t x : NT} (h : x ∈ t.b) : SizeOf.sizeOf x < SizeOf.sizeOf t := by
  cases t
  have := List.sizeOf_lt_of_mem h
  simp only [b] at this
  simp only [NT.mk.sizeOf_spec]
  omega
theorem size_l {t x : NT} (h : x ∈ t.l) : SizeOf.sizeOf x < SizeOf.sizeOf t := by
  cases t
  have := List.sizeOf_lt_of_mem h
  simp only [l] at this
  simp only [NT.mk.sizeOf_spec]
  omega
/-- Induction over a tree. -/
theorem ind {M : NT → Prop} (h : ∀ t, (∀ x, x ∈ t.b → M x) → (∀ x, x ∈ t.l → M x) → M t) (t : NT) : M t := by
  have key : ∀ n (t : NT), SizeOf.sizeOf t < n → M t := by
    intro n
    induction n with
    | zero => intro t ht; omega
    | succ n ih => intro t ht; exact h t (fun x hx => ih x (by have := size_b hx; omega)) (fun x hx => ih x (by have := size_l hx; omega))
  exact key _ t (Nat.lt_succ_self _)

/-- The node's eight cells lie at block g from cell o on. -/
def Cells (w : World) (g o : Nat) (t : NT) : Prop := ∀ j u, t.cs[j]? = some u → w.cell? ⟨g, o + j, none⟩ = some u
theorem Cells.all {w : World} {g o : Nat} {t : NT} (h : t.Cells w g o) : w.cell? ⟨g, o, none⟩ = some (.int .i64 t.k) ∧ w.cell? ⟨g, o + 1, none⟩ = some (.int .i64 t.a) ∧ w.cell? ⟨g, o + 2, none⟩ = some (.string t.s) ∧ w.cell? ⟨g, o + 3, none⟩ = some (.string t.p) ∧
    w.cell? ⟨g, o + 4, none⟩ = some (.bool t.h) ∧ w.cell? ⟨g, o + 5, none⟩ = some (.bool t.e) ∧ w.cell? ⟨g, o + 6, none⟩ = some (.slice t.A t.b.length t.c) ∧ w.cell? ⟨g, o + 7, none⟩ = some (.slice t.B t.l.length t.d) :=
  ⟨h 0 _ rfl, h 1 _ rfl, h 2 _ rfl, h 3 _ rfl, h 4 _ rfl, h 5 _ rfl, h 6 _ rfl, h 7 _ rfl⟩
theorem Cells.same {w w' : World} {g o : Nat} {t : NT} (h : t.Cells w g o) (e : ∀ p, w'.cell? ⟨g, p, none⟩ = w.cell? ⟨g, p, none⟩) : t.Cells w' g o := fun j u hu => (e _).trans (h j u hu)

/-- Where the row of nodes lies: l.length of them, at blocks of which Q holds. -/
def At (w : World) (Q : Nat → Prop) (A : Option Addr) (c : Nat) (l : List NT) : Prop :=
  (l.length ≤ c ∧ c ≤ maxLen ∧ l.length * 104 ≤ reachBytes) ∧ (0 < l.length → ∃ g o, A = some ⟨g, o, none⟩ ∧ Q g ∧ ∀ i (x : NT), l[i]? = some x → x.Cells w g (o + i * 8))
/-- All that the node leads to lies in blocks of which Q holds. -/
inductive In (w : World) (Q : Nat → Prop) : NT → Prop
  | mk (t : NT) (hk : -9223372036854775808 ≤ t.k ∧ t.k ≤ 9223372036854775807) (ha : -9223372036854775808 ≤ t.a ∧ t.a ≤ 9223372036854775807) (hs : t.s.size ≤ reachBytes) (hp : t.p.size ≤ reachBytes)
    (hA : At w Q t.A t.c t.b) (hB : At w Q t.B t.d t.l) (hx : ∀ x, x ∈ t.b → In w Q x) (hv : ∀ x, x ∈ t.l → In w Q x) : In w Q t
/-- A row of nodes with all that they lead to. -/
def Row (w : World) (Q : Nat → Prop) (A : Option Addr) (c : Nat) (l : List NT) : Prop := At w Q A c l ∧ ∀ x, x ∈ l → In w Q x
theorem In.body {w : World} {Q : Nat → Prop} {t : NT} (h : t.In w Q) : Row w Q t.A t.c t.b := by cases h with | mk _ _ _ _ _ hA _ hx _ => exact ⟨hA, hx⟩
theorem In.els {w : World} {Q : Nat → Prop} {t : NT} (h : t.In w Q) : Row w Q t.B t.d t.l := by cases h with | mk _ _ _ _ _ _ hB _ hv => exact ⟨hB, hv⟩
theorem In.ki {w : World} {Q : Nat → Prop} {t : NT} (h : t.In w Q) : -9223372036854775808 ≤ t.k ∧ t.k ≤ 9223372036854775807 := by cases h; assumption
theorem In.ai {w : World} {Q : Nat → Prop} {t : NT} (h : t.In w Q) : -9223372036854775808 ≤ t.a ∧ t.a ≤ 9223372036854775807 := by cases h; assumption
theorem At.same {w w' : World} {Q Q' : Nat → Prop} {A : Option Addr} {c : Nat} {l : List NT} (h : At w Q A c l) (hq : ∀ g, Q g → Q' g) (e : ∀ g p, Q g → w'.cell? ⟨g, p, none⟩ = w.cell? ⟨g, p, none⟩) : At w' Q' A c l := by
  obtain ⟨h1, h2⟩ := h
  refine ⟨h1, fun hl => ?_⟩
  obtain ⟨g, o, e1, hg, hi⟩ := h2 hl
  exact ⟨g, o, e1, hq g hg, fun i x hx => (hi i x hx).same fun p => e g p hg⟩
theorem In.same {w w' : World} {Q Q' : Nat → Prop} {t : NT} (h : t.In w Q) (hq : ∀ g, Q g → Q' g) (e : ∀ g p, Q g → w'.cell? ⟨g, p, none⟩ = w.cell? ⟨g, p, none⟩) : t.In w' Q' := by
  induction h with
  | mk t hk ha hs hp hA hB _ _ ihx ihv => exact .mk t hk ha hs hp (hA.same hq e) (hB.same hq e) ihx ihv
theorem Row.same {w w' : World} {Q Q' : Nat → Prop} {A : Option Addr} {c : Nat} {l : List NT} (h : Row w Q A c l) (hq : ∀ g, Q g → Q' g) (e : ∀ g p, Q g → w'.cell? ⟨g, p, none⟩ = w.cell? ⟨g, p, none⟩) : Row w' Q' A c l :=
  ⟨h.1.same hq e, fun x hx => (h.2 x hx).same hq e⟩
theorem Row.nil (w : World) (Q : Nat → Prop) : Row w Q none 0 [] := ⟨⟨⟨Nat.le_refl _, Nat.zero_le _, Nat.zero_le _⟩, fun h => absurd h (by simp)⟩, fun x hx => by cases hx⟩
/-- A node of the row. -/
theorem Row.at_ {w : World} {Q : Nat → Prop} {A : Option Addr} {c : Nat} {l : List NT} (h : Row w Q A c l) {i : Nat} {x : NT} (hx : l[i]? = some x) : ∃ g o, A = some ⟨g, o, none⟩ ∧ Q g ∧ x.Cells w g (o + i * 8) ∧ x.In w Q := by
  obtain ⟨hi, hv⟩ := List.getElem?_eq_some_iff.1 hx
  obtain ⟨g, o, e1, hg, hc⟩ := h.1.2 (by omega)
  exact ⟨g, o, e1, hg, hc i x hx, h.2 x (List.mem_of_getElem? hx)⟩

/-! ### Without the addresses -/
mutual
def er : NT → NT | mk k a s p h e _ _ b _ _ l => mk k a s p h e none 0 (ers b) none 0 (ers l)
def ers : List NT → List NT | [] => [] | x :: l => er x :: ers l
end
theorem ers_map : ∀ l : List NT, ers l = l.map er
  | [] => by simp [ers]
  | x :: l => by simp [ers, ers_map l]
theorem ers_len (l : List NT) : (ers l).length = l.length := by rw [ers_map, List.length_map]
theorem er_k (t : NT) : t.er.k = t.k := by cases t; simp [er, k]
theorem er_a (t : NT) : t.er.a = t.a := by cases t; simp [er, a]
theorem er_s (t : NT) : t.er.s = t.s := by cases t; simp [er, s]
theorem er_p (t : NT) : t.er.p = t.p := by cases t; simp [er, p]
theorem er_h (t : NT) : t.er.h = t.h := by cases t; simp [er, h]
theorem er_e (t : NT) : t.er.e = t.e := by cases t; simp [er, e]
theorem er_b (t : NT) : t.er.b = ers t.b := by cases t; simp [er, b]
theorem er_l (t : NT) : t.er.l = ers t.l := by cases t; simp [er, l]
theorem er_mk (t : NT) : t.er = mk t.k t.a t.s t.p t.h t.e none 0 (ers t.b) none 0 (ers t.l) := by cases t; simp [er, k, a, s, p, h, e, b, l]
/-! The same without offsets, too. -/
mutual
def strip : NT → NT | mk k _ s p h e _ _ b _ _ l => mk k 0 s p h e none 0 (strips b) none 0 (strips l)
def strips : List NT → List NT | [] => [] | x :: l => strip x :: strips l
end
theorem strips_map : ∀ l : List NT, strips l = l.map strip
  | [] => by simp [strips]
  | x :: l => by simp [strips, strips_map l]
theorem strip_mk (t : NT) : t.strip = mk t.k 0 t.s t.p t.h t.e none 0 (strips t.b) none 0 (strips t.l) := by cases t; simp [strip, k, s, p, h, e, b, l]
theorem strip_er (t : NT) : t.er.strip = t.strip := by
  refine ind (M := fun t => t.er.strip = t.strip) (fun t h1 h2 => ?_) t
  rw [strip_mk t.er, strip_mk t, er_k, er_s, er_p, er_h, er_e, er_b, er_l, ers_map, ers_map, strips_map, strips_map, strips_map, strips_map, List.map_map, List.map_map]
  congr 1
  · exact List.map_congr_left h1
  · exact List.map_congr_left h2
end NT
end Go.Proofs.Yteclclidibmajaa
