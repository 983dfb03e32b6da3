/-
  What Lex gives, as one shape; a token's cells; where a fault is.
  The code of templates of layer 17 as plain data: instructions, the code of a node and of a list, how long it is, how many escapers it takes, where its jumps lead. No program is imported here.
  The check of code of layer 17 as plain data, and the code of a whole template. No program is imported here.
  The canonical source of nodes, as plain data: it is that of the tokens that they came from; parsed again it gives the same nodes with other offsets. No program is imported here.
  The code of a parsed template of layer 17: every instruction is valid, every call leads to a definition's start. No program is imported here.
  Contract: the reference's Calls of layer 14.
  The nodes of a list of tokens as the program's parser comes to them: a list ends at any Else or End, and whoever asked for it looks at that token. No program is imported here.
  A deferred function's region that begins with recover: behind it the region is walked as any other. No program is imported here.
  A region that draws its order, walked in one order, where something about the world stands through all of it: variables that are read and then written with what they hold. No program is imported here.
-/
import Derived.Test.YtpcapmdfjmpdiaaGreatDoorZLx11
import Derived.Test.YtpcapmdfjmpdiaaGreatDoorZRegion2
import Derived.Test.YtpcapmdfjmpdiaaGreatDoorZNpure
import Derived.Test.YtpcapmdfjmpdiaaGreatDoorZIq16
import Derived.Test.YtpcapmdfjmpdiaaGreatDoorZCt12
import Derived.Recover
import Derived.Tactics
namespace Go.Proofs.YtpcapmdfjmpdiaaGreatDoor
open Go.RowKit Go.BigFrame
set_option linter.unusedVariables false
set_option linter.unusedSimpArgs false

/-- The cells of a token in a row, in whatever later world. -/
theorem tok_at {w : World} {T : TypeId} {A : Option Addr} {c i : Nat} {ts : List Tok} {t : Tok} (h : KRow w T 5 Tok.cs A c ts) (ht : ts[i]? = some t) :
    ∃ g o, A = some ⟨g, o, none⟩ ∧ ∀ W, Bel w W → W.cell? ⟨g, o + i * 5, none⟩ = some (.int .i64 t.k) ∧ W.cell? ⟨g, o + i * 5 + 1, none⟩ = some (.int .i64 t.a) ∧ W.cell? ⟨g, o + i * 5 + 2, none⟩ = some (.string (ofL t.s)) ∧ W.cell? ⟨g, o + i * 5 + 3, none⟩ = some (.string (ofL t.p)) ∧ W.cell? ⟨g, o + i * 5 + 4, none⟩ = some (.bool t.h) := by
  obtain ⟨g, o, rfl, hg, hc⟩ := h.at_ tok_len ht (by decide)
  refine ⟨g, o, rfl, fun W hb => ⟨?_, ?_, ?_, ?_, ?_⟩⟩
  · have := hc 0 _ rfl; rw [Nat.add_zero] at this; exact (hb.cell hg).trans this
  · exact (hb.cell hg).trans (hc 1 _ rfl)
  · exact (hb.cell hg).trans (hc 2 _ rfl)
  · exact (hb.cell hg).trans (hc 3 _ rfl)
  · exact (hb.cell hg).trans (hc 4 _ rfl)
theorem lex_ok {T : TypeId} {s : ByteArray} {ts : List Tok} {w : World} {e : Ending} {w' : World} (h : LexPost T s (.ok ts) w e w') : Bel w w' ∧ ∃ A c, e = .returned (.tuple #[.slice A ts.length c, .int .i64 s.size, .int .i64 0]) ∧ KRow w' T 5 Tok.cs A c ts ∧ ∀ k, k ∈ rowT A → w.heap.size ≤ k := h
theorem lex_err {T : TypeId} {s : ByteArray} {b c : Nat} {w : World} {e : Ending} {w' : World} (h : LexPost T s (.error (b, c)) w e w') : Bel w w' ∧ e = .returned (.tuple #[.slice none 0 0, .int .i64 b, .int .i64 c]) := h
theorem bel_only {w w' : World} (h : Bel w w') : Only [] w w' := Only.of_below (S := []) h fun _ hk _ => hk
theorem Bel.drew (w : World) : Bel w w.drew := (Below.refl _ _).drew
/-- The parts of a result. -/
def toksR : LexR → List Tok | .ok ts => ts | .error _ => []
def numR (s : ByteArray) : LexR → Nat | .ok _ => s.size | .error (b, _) => b
def errR : LexR → Nat | .ok _ => 0 | .error (_, c) => c
theorem er_bound {l : List UInt8} {a b c : Nat} (h : Er l a b c) : b ≤ a + l.length ∧ c ≠ 0 := by
  induction h with
  | text l a k b c hf _ ih => have := find2_lt hf; rw [List.length_drop] at ih; exact ⟨by omega, ih.2⟩
  | dir l a e t b c hf hc hd _ ih => have := find2_lt hc; rw [List.length_drop] at this ih; have := find2_lt hf; exact ⟨by omega, ih.2⟩
  | trunc l a hf hc => exact ⟨by omega, by decide⟩
  | bad l a e c hf hc hd => exact ⟨by omega, by rcases dirOf_err hd with h | h <;> omega⟩
/-- What Lex gives is one of these. -/
theorem lexOf_total (s : ByteArray) : ∃ r, LexOf s r ∧ numR s r ≤ s.size ∧ (s.size ≤ 5000 → errR r = 0 → ∃ ts, r = .ok ts ∧ Lx (toL s) 0 ts) ∧ (errR r ≠ 0 → toksR r = []) := by
  by_cases hb : 65536 < s.size
  · exact ⟨.error (0, 6), by unfold LexOf; rw [if_pos hb], Nat.zero_le _, fun h => by omega, fun _ => rfl⟩
  · obtain ⟨r, hr⟩ := rs_total (toL s) 0
    refine ⟨r, by unfold LexOf; rw [if_neg hb]; exact hr, ?_, ?_, ?_⟩
    · match r, hr with
      | .ok ts, _ => exact Nat.le_refl _
      | .error (b, c), hr => have := (er_bound hr).1; rw [toL_len] at this; simp only [numR]; omega
    · match r, hr with
      | .ok ts, hr => exact fun _ _ => ⟨ts, rfl, hr⟩
      | .error (b, c), hr => exact fun _ h => absurd h (er_bound hr).2
    · match r, hr with
      | .ok ts, _ => exact fun h => absurd rfl h
      | .error (b, c), _ => exact fun _ => rfl
end Go.Proofs.YtpcapmdfjmpdiaaGreatDoor

namespace Go.Proofs.YtpcapmdfjmpdiaaGreatDoor
open NT
set_option linter.unusedVariables false
set_option linter.unusedSimpArgs false

/-- An instruction: opcode, text, path, has it a path, escaper, target. -/
structure IN where
  o : Nat
  s : ByteArray
  p : ByteArray
  h : Bool
  e : Nat
  t : Nat
abbrev eB : ByteArray := ByteArray.empty
def IN.cs (x : IN) : List Value := [.int .i64 (x.o : Nat), .string x.s, .string x.p, .bool x.h, .int .i64 (x.e : Nat), .int .i64 (x.t : Nat)]
theorem IN.cs_len (x : IN) : x.cs.length = 6 := rfl
theorem IN.cs_one (x : IN) (u : Value) (h : u ∈ x.cs) : u.oneCell' = true := by
  simp only [IN.cs, List.mem_cons, List.not_mem_nil, or_false] at h
  rcases h with rfl | rfl | rfl | rfl | rfl | rfl <;> rfl
/-- Code and the escapers that are left. -/
abbrev CE := List IN × List Nat
def seqC (A : CE) (R : Nat → List Nat → CE) (a : Nat) : CE := (A.1 ++ (R (a + A.1.length) A.2).1, (R (a + A.1.length) A.2).2)
def ifC (a : Nat) (p : ByteArray) (e : Bool) (B : CE) (R : Nat → List Nat → CE) : CE :=
  if e = true then (⟨2, eB, p, false, 0, a + 2 + B.1.length⟩ :: (B.1 ++ ⟨3, eB, eB, false, 0, a + 2 + B.1.length + (R (a + 2 + B.1.length) B.2).1.length⟩ :: (R (a + 2 + B.1.length) B.2).1), (R (a + 2 + B.1.length) B.2).2)
  else (⟨2, eB, p, false, 0, a + 1 + B.1.length⟩ :: B.1, B.2)
def rangeC (a : Nat) (p : ByteArray) (B : CE) : CE := (⟨4, eB, p, false, 0, a + 2 + B.1.length⟩ :: (B.1 ++ [⟨5, eB, eB, false, 0, a + 1⟩]), B.2)
mutual
def nodeC (ad : ByteArray → Nat) (a : Nat) (es : List Nat) : NT → CE
  | .mk k _ s p h e _ _ b _ _ l =>
    if k = 0 then ([⟨0, s, eB, false, 0, 0⟩], es)
    else if k = 1 then ([⟨1, eB, p, false, es.headD 0, 0⟩], es.tail)
    else if k = 2 then ifC a p e (listC ad (a + 1) es b) (fun a2 es2 => listC ad a2 es2 l)
    else if k = 3 then rangeC a p (listC ad (a + 1) es b)
    else if k = 4 then ([⟨6, eB, p, h, 0, ad s⟩], es)
    else if k = 5 then ([⟨8, eB, eB, false, 0, 0⟩], es)
    else ([], es)
def listC (ad : ByteArray → Nat) (a : Nat) (es : List Nat) : List NT → CE
  | [] => ([], es)
  | x :: l => seqC (nodeC ad a es x) (fun a2 es2 => listC ad a2 es2 l) a
end
theorem nodeC_eq (ad : ByteArray → Nat) (a : Nat) (es : List Nat) (t : NT) : nodeC ad a es t =
    if t.k = 0 then ([⟨0, t.s, eB, false, 0, 0⟩], es)
    else if t.k = 1 then ([⟨1, eB, t.p, false, es.headD 0, 0⟩], es.tail)
    else if t.k = 2 then ifC a t.p t.e (listC ad (a + 1) es t.b) (fun a2 es2 => listC ad a2 es2 t.l)
    else if t.k = 3 then rangeC a t.p (listC ad (a + 1) es t.b)
    else if t.k = 4 then ([⟨6, eB, t.p, t.h, 0, ad t.s⟩], es)
    else if t.k = 5 then ([⟨8, eB, eB, false, 0, 0⟩], es)
    else ([], es) := by
  cases t
  rw [nodeC]
  rfl
theorem listC_nil (ad : ByteArray → Nat) (a : Nat) (es : List Nat) : listC ad a es [] = ([], es) := by rw [listC]
theorem listC_cons (ad : ByteArray → Nat) (a : Nat) (es : List Nat) (x : NT) (l : List NT) : listC ad a es (x :: l) = seqC (nodeC ad a es x) (fun a2 es2 => listC ad a2 es2 l) a := by rw [listC]
theorem listC_append (ad : ByteArray → Nat) (l m : List NT) : ∀ (a : Nat) (es : List Nat), listC ad a es (l ++ m) = seqC (listC ad a es l) (fun a2 es2 => listC ad a2 es2 m) a := by
  induction l with
  | nil => intro a es; rw [List.nil_append, listC_nil]; unfold seqC; simp
  | cons x l ih =>
    intro a es
    rw [List.cons_append, listC_cons, listC_cons]
    unfold seqC
    simp only [ih]
    unfold seqC
    simp only [List.append_assoc, List.length_append, Nat.add_assoc]
theorem listC_snoc (ad : ByteArray → Nat) (l : List NT) (x : NT) (a : Nat) (es : List Nat) : listC ad a es (l ++ [x]) = seqC (listC ad a es l) (fun a2 es2 => nodeC ad a2 es2 x) a := by
  rw [listC_append]
  unfold seqC
  simp only [listC_cons, listC_nil]
  unfold seqC
  simp
theorem listC_take {ad : ByteArray → Nat} {l : List NT} {i : Nat} {x : NT} (h : l[i]? = some x) (a : Nat) (es : List Nat) : listC ad a es (l.take (i + 1)) = seqC (listC ad a es (l.take i)) (fun a2 es2 => nodeC ad a2 es2 x) a := by
  rw [List.take_add_one, h]
  exact listC_snoc ad _ x a es
/-! ### How long the code is, and how many escapers it takes -/
namespace NT
mutual
def siz : NT → Nat | mk k _ _ _ _ e _ _ b _ _ l => if k = 2 then 1 + sizs b + (if e = true then 1 + sizs l else 0) else if k = 3 then 2 + sizs b else if k = 0 ∨ k = 1 ∨ k = 4 ∨ k = 5 then 1 else 0
def sizs : List NT → Nat | [] => 0 | x :: r => siz x + sizs r
end
mutual
def prn : NT → Nat | mk k _ _ _ _ e _ _ b _ _ l => if k = 1 then 1 else if k = 2 then prns b + (if e = true then prns l else 0) else if k = 3 then prns b else 0
def prns : List NT → Nat | [] => 0 | x :: r => prn x + prns r
end
theorem siz_eq (t : NT) : t.siz = if t.k = 2 then 1 + sizs t.b + (if t.e = true then 1 + sizs t.l else 0) else if t.k = 3 then 2 + sizs t.b else if t.k = 0 ∨ t.k = 1 ∨ t.k = 4 ∨ t.k = 5 then 1 else 0 := by cases t; rw [siz]; rfl
theorem sizs_nil : sizs [] = 0 := by simp [sizs]
theorem sizs_cons (x : NT) (r : List NT) : sizs (x :: r) = siz x + sizs r := by simp [sizs]
theorem sizs_append : ∀ l m : List NT, sizs (l ++ m) = sizs l + sizs m
  | [], m => by simp [sizs_nil]
  | x :: l, m => by rw [List.cons_append, sizs_cons, sizs_cons, sizs_append l m]; omega
theorem prn_eq (t : NT) : t.prn = if t.k = 1 then 1 else if t.k = 2 then prns t.b + (if t.e = true then prns t.l else 0) else if t.k = 3 then prns t.b else 0 := by cases t; rw [prn]; rfl
theorem prns_nil : prns [] = 0 := by simp [prns]
theorem prns_cons (x : NT) (r : List NT) : prns (x :: r) = prn x + prns r := by simp [prns]
theorem prns_append : ∀ l m : List NT, prns (l ++ m) = prns l + prns m
  | [], m => by simp [prns_nil]
  | x :: l, m => by rw [List.cons_append, prns_cons, prns_cons, prns_append l m]; omega
end NT
/-- Length and escapers of the code of a tree. -/
structure CeOk (r : CE) (n k : Nat) (es : List Nat) : Prop where
  len : r.1.length = n
  es : r.2 = es.drop k
theorem listC_ok_of (ad : ByteArray → Nat) (l : List NT) (h : ∀ x, x ∈ l → ∀ a es, CeOk (nodeC ad a es x) x.siz x.prn es) : ∀ a es, CeOk (listC ad a es l) (sizs l) (prns l) es := by
  induction l with
  | nil => intro a es; rw [listC_nil, sizs_nil, prns_nil]; exact ⟨rfl, rfl⟩
  | cons x l ih =>
    intro a es
    have h1 := h x (by simp) a es
    have h2 := ih (fun y hy => h y (by simp [hy])) (a + (nodeC ad a es x).1.length) (nodeC ad a es x).2
    rw [listC_cons, sizs_cons, prns_cons]
    refine ⟨?_, ?_⟩
    · show ((nodeC ad a es x).1 ++ _).length = _
      rw [List.length_append, h1.len, ← h2.len, h1.len]
    · show (listC ad _ _ l).2 = _
      rw [h2.es, h1.es, List.drop_drop]
theorem nodeC_ok (ad : ByteArray → Nat) (t : NT) : ∀ a es, CeOk (nodeC ad a es t) t.siz t.prn es := by
  refine NT.ind (M := fun t => ∀ a es, CeOk (nodeC ad a es t) t.siz t.prn es) (fun t hb hl a es => ?_) t
  have HB := fun a es => listC_ok_of ad t.b hb a es
  have HL := fun a es => listC_ok_of ad t.l hl a es
  rw [nodeC_eq, siz_eq, prn_eq]
  by_cases h0 : t.k = 0
  · simp [h0]; exact ⟨rfl, rfl⟩
  by_cases h1 : t.k = 1
  · simp [h1]; exact ⟨rfl, by cases es <;> rfl⟩
  by_cases h2 : t.k = 2
  · rw [if_neg h0, if_neg h1, if_pos h2, if_pos h2, if_neg h1, if_pos h2]
    unfold ifC
    have b1 := HB (a + 1) es
    by_cases he : t.e = true
    · rw [if_pos he, if_pos he, if_pos he]
      have l1 := HL (a + 2 + (listC ad (a + 1) es t.b).1.length) (listC ad (a + 1) es t.b).2
      refine ⟨?_, ?_⟩
      · simp only [List.length_cons, List.length_append, b1.len]
        rw [b1.len] at l1
        rw [l1.len]
        omega
      · rw [l1.es, b1.es, List.drop_drop]
    · rw [if_neg he, if_neg he, if_neg he]
      exact ⟨by simp only [List.length_cons, b1.len]; omega, b1.es⟩
  by_cases h3 : t.k = 3
  · rw [if_neg h0, if_neg h1, if_neg h2, if_pos h3, if_neg h2, if_pos h3, if_neg h1, if_neg h2, if_pos h3]
    have b1 := HB (a + 1) es
    exact ⟨by unfold rangeC; simp only [List.length_cons, List.length_append, b1.len, List.length_nil]; omega, b1.es⟩
  by_cases h4 : t.k = 4
  · simp [h4]; exact ⟨rfl, rfl⟩
  by_cases h5 : t.k = 5
  · simp [h5]; exact ⟨rfl, rfl⟩
  · simp [h0, h1, h2, h3, h4, h5]; exact ⟨rfl, rfl⟩
theorem listC_ok (ad : ByteArray → Nat) (l : List NT) (a : Nat) (es : List Nat) : CeOk (listC ad a es l) (sizs l) (prns l) es := listC_ok_of ad l (fun x _ => nodeC_ok ad x) a es
/-! ### Where the jumps lead -/
/-- The jumps of code that lies at an address: forward, but for that of a loop's end, and within it. -/
def Jok (a : Nat) (c : List IN) : Prop := ∀ i x, c[i]? = some x → (x.o = 2 ∨ x.o = 3 ∨ x.o = 4 → a + i < x.t ∧ x.t ≤ a + c.length) ∧
  (x.o = 5 → a + 1 ≤ x.t ∧ x.t ≤ a + i ∧ ∃ j y, a + j + 1 = x.t ∧ c[j]? = some y ∧ y.o = 4 ∧ y.t = a + i + 1)
theorem Jok.nil (a : Nat) : Jok a [] := fun i x h => by simp at h
theorem Jok.append {a : Nat} {c d : List IN} (h : Jok a c) (k : Jok (a + c.length) d) : Jok a (c ++ d) := by
  intro i x hx
  rw [List.getElem?_append] at hx
  split at hx
  · rename_i hi
    obtain ⟨h1, h2⟩ := h i x hx
    refine ⟨fun ho => ⟨(h1 ho).1, ?_⟩, fun ho => ?_⟩
    · have := (h1 ho).2
      rw [List.length_append]; omega
    · obtain ⟨g1, g2, j, y, g3, g4, g5, g6⟩ := h2 ho
      refine ⟨g1, g2, j, y, g3, ?_, g5, g6⟩
      rw [List.getElem?_append, if_pos (List.getElem?_eq_some_iff.1 g4).1]
      exact g4
  · rename_i hi
    obtain ⟨h1, h2⟩ := k _ x hx
    refine ⟨fun ho => ?_, fun ho => ?_⟩
    · have := h1 ho
      rw [List.length_append]; omega
    · obtain ⟨g1, g2, j, y, g3, g4, g5, g6⟩ := h2 ho
      refine ⟨by omega, by omega, c.length + j, y, by omega, ?_, g5, by omega⟩
      rw [List.getElem?_append_right (by omega), Nat.add_sub_cancel_left]
      exact g4
theorem Jok.one {a : Nat} {x : IN} (h : x.o ≠ 2 ∧ x.o ≠ 3 ∧ x.o ≠ 4 ∧ x.o ≠ 5) : Jok a [x] := by
  intro i y hy
  cases i with
  | zero =>
    simp at hy
    subst hy
    exact ⟨fun ho => by omega, fun ho => by omega⟩
  | succ i => simp at hy
/-- A jump in front that leads behind it, up to its code's end. -/
theorem Jok.front {a : Nat} {x : IN} {c : List IN} (h : Jok (a + 1) c) (ho : x.o ≠ 5) (h1 : x.o = 2 ∨ x.o = 3 ∨ x.o = 4 → a < x.t ∧ x.t ≤ a + 1 + c.length) : Jok a (x :: c) := by
  intro i y hy
  cases i with
  | zero =>
    simp at hy
    subst hy
    exact ⟨fun h => by have := h1 h; rw [List.length_cons]; omega, fun h => absurd h ho⟩
  | succ i =>
    rw [List.getElem?_cons_succ] at hy
    obtain ⟨g1, g2⟩ := h i y hy
    refine ⟨fun h => by have := g1 h; rw [List.length_cons]; omega, fun h => ?_⟩
    obtain ⟨e1, e2, j, z, e3, e4, e5, e6⟩ := g2 h
    exact ⟨by omega, by omega, j + 1, z, by omega, by rw [List.getElem?_cons_succ]; exact e4, e5, by omega⟩
theorem jok_range {a : Nat} {p : ByteArray} {B : CE} (h : Jok (a + 1) B.1) : Jok a (rangeC a p B).1 := by
  intro i y hy
  show _
  have hlen : (rangeC a p B).1.length = B.1.length + 2 := by unfold rangeC; simp
  cases i with
  | zero =>
    have : y = ⟨4, eB, p, false, 0, a + 2 + B.1.length⟩ := by unfold rangeC at hy; simp at hy; exact hy.symm
    subst this
    refine ⟨fun _ => ?_, fun ho => by simp at ho⟩
    rw [hlen]
    show a + 0 < a + 2 + B.1.length ∧ a + 2 + B.1.length ≤ _
    omega
  | succ i =>
    unfold rangeC at hy
    rw [List.getElem?_cons_succ, List.getElem?_append] at hy
    split at hy
    · obtain ⟨g1, g2⟩ := h i y hy
      refine ⟨fun h => by have := g1 h; rw [hlen]; omega, fun h => ?_⟩
      obtain ⟨e1, e2, j, z, e3, e4, e5, e6⟩ := g2 h
      refine ⟨by omega, by omega, j + 1, z, by omega, ?_, e5, by omega⟩
      unfold rangeC
      rw [List.getElem?_cons_succ, List.getElem?_append, if_pos (List.getElem?_eq_some_iff.1 e4).1]
      exact e4
    · rename_i hi
      have h0 : i = B.1.length ∧ y = ⟨5, eB, eB, false, 0, a + 1⟩ := by
        obtain ⟨m, hm⟩ : ∃ m, i = B.1.length + m := ⟨i - B.1.length, by omega⟩
        subst hm
        rw [Nat.add_sub_cancel_left] at hy
        cases m with
        | zero => simp at hy; exact ⟨rfl, hy.symm⟩
        | succ m => simp at hy
      obtain ⟨rfl, rfl⟩ := h0
      refine ⟨fun ho => by simp at ho, fun _ => ⟨Nat.le_refl _, by show a + 1 ≤ _; omega, 0, ⟨4, eB, p, false, 0, a + 2 + B.1.length⟩, rfl, rfl, rfl, by show a + 2 + B.1.length = _; omega⟩⟩
theorem jok_if {a : Nat} {p : ByteArray} {e : Bool} {B : CE} {R : Nat → List Nat → CE} (h : Jok (a + 1) B.1) (k : e = true → Jok (a + 2 + B.1.length) (R (a + 2 + B.1.length) B.2).1) : Jok a (ifC a p e B R).1 := by
  unfold ifC
  by_cases he : e = true
  · rw [if_pos he]
    refine Jok.front (Jok.append h (Jok.front ?_ (by simp) (fun _ => ?_))) (by simp) (fun _ => ?_)
    · have := k he
      rwa [show a + 2 + B.1.length = a + 1 + B.1.length + 1 by omega] at this ⊢
    · show a + 1 + B.1.length < a + 2 + B.1.length + _ ∧ a + 2 + B.1.length + _ ≤ _
      omega
    · show a < a + 2 + B.1.length ∧ a + 2 + B.1.length ≤ _
      simp only [List.length_append, List.length_cons]
      omega
  · rw [if_neg he]
    refine Jok.front h (by simp) (fun _ => ?_)
    show a < a + 1 + B.1.length ∧ a + 1 + B.1.length ≤ _
    omega
theorem listC_jok_of (ad : ByteArray → Nat) (l : List NT) (h : ∀ x, x ∈ l → ∀ a es, Jok a (nodeC ad a es x).1) : ∀ a es, Jok a (listC ad a es l).1 := by
  induction l with
  | nil => intro a es; rw [listC_nil]; exact Jok.nil a
  | cons x l ih =>
    intro a es
    rw [listC_cons]
    exact Jok.append (h x (by simp) a es) (ih (fun y hy => h y (by simp [hy])) _ _)
theorem nodeC_jok (ad : ByteArray → Nat) (t : NT) : ∀ a es, Jok a (nodeC ad a es t).1 := by
  refine NT.ind (M := fun t => ∀ a es, Jok a (nodeC ad a es t).1) (fun t hb hl a es => ?_) t
  rw [nodeC_eq]
  split
  · exact Jok.one (by simp)
  split
  · exact Jok.one (by simp)
  split
  · exact jok_if (listC_jok_of ad t.b hb _ _) (fun _ => listC_jok_of ad t.l hl _ _)
  split
  · exact jok_range (listC_jok_of ad t.b hb _ _)
  split
  · exact Jok.one (by simp)
  split
  · exact Jok.one (by simp)
  · exact Jok.nil a
theorem listC_jok (ad : ByteArray → Nat) (l : List NT) (a : Nat) (es : List Nat) : Jok a (listC ad a es l).1 := listC_jok_of ad l (fun x _ => nodeC_jok ad x) a es
end Go.Proofs.YtpcapmdfjmpdiaaGreatDoor

namespace Go.Proofs.YtpcapmdfjmpdiaaGreatDoor
open NT
set_option linter.unusedVariables false
set_option linter.unusedSimpArgs false

/-- An instruction with whatever numbers. -/
structure XI where
  o : Int
  s : ByteArray
  p : ByteArray
  h : Bool
  e : Int
  t : Int
def XI.cs (x : XI) : List Value := [.int .i64 x.o, .string x.s, .string x.p, .bool x.h, .int .i64 x.e, .int .i64 x.t]
def IN.x (x : IN) : XI := ⟨x.o, x.s, x.p, x.h, x.e, x.t⟩
def hasP (o : Int) : Prop := o = 1 ∨ o = 2 ∨ o = 4 ∨ o = 6
instance (o : Int) : Decidable (hasP o) := by unfold hasP; infer_instance
def hasT (o : Int) : Prop := 2 ≤ o ∧ o ≤ 6
instance (o : Int) : Decidable (hasT o) := by unfold hasT; infer_instance
/-- Are the operands that an opcode does not have zero? -/
def shapeX (x : XI) : Prop := (x.s.size ≠ 0 → x.o = 0) ∧ (x.p.size ≠ 0 → hasP x.o) ∧ (x.h = true → x.o = 6) ∧ (x.o = 6 → x.h = false → x.p.size = 0) ∧ (x.e ≠ 0 → x.o = 1) ∧ (x.t ≠ 0 → hasT x.o)
instance (x : XI) : Decidable (shapeX x) := by unfold shapeX; infer_instance
/-- What is wrong with an instruction: 0 if nothing is. -/
def oneC (x : XI) (i n : Nat) : Nat :=
  if x.o < 0 ∨ 9 < x.o then 5
  else if ¬ shapeX x then 5
  else if (pathOf x.p).isNone = true then 11
  else if x.o = 1 ∧ (x.e < 0 ∨ 4 < x.e) then 2
  else if ¬ hasT x.o then 0
  else if x.t < 0 ∨ (n : Int) ≤ x.t ∨ (x.o ≤ 4 ∧ x.t ≤ (i : Int)) ∨ (x.o = 5 ∧ (i : Int) < x.t) then 3
  else 0
def scanC (n : Nat) : Nat → List XI → Option (Nat × Nat)
  | _, [] => none
  | i, x :: r => if oneC x i n = 0 then scanC n (i + 1) r else some (i, oneC x i n)
theorem scanC_cons (n i : Nat) (x : XI) (r : List XI) : scanC n i (x :: r) = if oneC x i n = 0 then scanC n (i + 1) r else some (i, oneC x i n) := rfl
theorem scanC_nil (n i : Nat) : scanC n i [] = none := rfl
def endsC (c : List XI) : Prop := ∃ x, c.getLast? = some x ∧ (x.o = 9 ∨ x.o = 7)
/-- What Check answers. -/
def checkC (c : List XI) : Nat × Nat :=
  if 65536 < c.length then (0, 14)
  else match scanC c.length 0 c with
    | some r => r
    | none => match c.getLast? with
      | some x => if x.o = 9 ∨ x.o = 7 then (c.length, 0) else (c.length, 7)
      | none => (c.length, 7)
theorem scanC_append (n : Nat) (l m : List XI) : ∀ i, scanC n i (l ++ m) = match scanC n i l with | some r => some r | none => scanC n (i + l.length) m := by
  induction l with
  | nil => intro i; rfl
  | cons x l ih =>
    intro i
    rw [List.cons_append, scanC_cons, scanC_cons]
    split
    · rw [ih, show i + 1 + l.length = i + (x :: l).length by simp; omega]
    · rfl
theorem scanC_step {n : Nat} {c : List XI} {i : Nat} {x : XI} (h : c[i]? = some x) (hn : scanC n 0 (c.take i) = none) : (oneC x i n = 0 → scanC n 0 (c.take (i + 1)) = none) ∧ (oneC x i n ≠ 0 → scanC n 0 c = some (i, oneC x i n)) := by
  have hi := (List.getElem?_eq_some_iff.1 h).1
  have hl : (c.take i).length = i := by rw [List.length_take]; omega
  constructor
  · intro h0
    rw [List.take_add_one, h, scanC_append, hn]
    show scanC n (0 + (c.take i).length) [x] = none
    rw [hl]
    rw [scanC_cons, Nat.zero_add, if_pos h0, scanC_nil]
  · intro h0
    conv => lhs; rw [← List.take_append_drop i c]
    rw [scanC_append, hn]
    show scanC n (0 + (c.take i).length) (c.drop i) = _
    rw [hl, List.drop_eq_getElem_cons hi]
    have hx : c[i] = x := by rw [List.getElem?_eq_getElem hi] at h; injection h
    rw [hx]
    rw [scanC_cons, Nat.zero_add, if_neg h0]
theorem scanC_none {n : Nat} {c : List XI} (h : ∀ i x, c[i]? = some x → oneC x i n = 0) : scanC n 0 c = none := by
  have key : ∀ k, scanC n 0 (c.take k) = none := by
    intro k
    induction k with
    | zero => rfl
    | succ k ih =>
      cases hk : c[k]? with
      | none =>
        rw [List.take_of_length_le (by have := List.getElem?_eq_none_iff.1 hk; omega)]
        rwa [List.take_of_length_le (by have := List.getElem?_eq_none_iff.1 hk; omega)] at ih
      | some x => exact (scanC_step hk ih).1 (h k x hk)
  have := key c.length
  rwa [List.take_length] at this
theorem checkC_ok {c : List XI} (hl : c.length ≤ 65536) (h : ∀ i x, c[i]? = some x → oneC x i c.length = 0) (he : endsC c) : checkC c = (c.length, 0) := by
  unfold checkC
  rw [if_neg (by omega), scanC_none h]
  obtain ⟨x, h1, h2⟩ := he
  dsimp only
  rw [h1]
  dsimp only
  rw [if_pos h2]
/-! ### The code of a whole template -/
/-- All Print nodes of a node. -/
def prf (t : NT) : Nat := if t.k = 6 then prns t.b else t.prn
/-- The definitions with their escapers; the escapers of the main nodes. -/
def dfs : List NT → List Nat → List (NT × List Nat)
  | [], _ => []
  | x :: l, es => if x.k = 6 then (x, es.take (prf x)) :: dfs l (es.drop (prf x)) else dfs l (es.drop (prf x))
def mainE : List NT → List Nat → List Nat
  | [], _ => []
  | x :: l, es => if x.k = 6 then mainE l (es.drop (prf x)) else es.take (prf x) ++ mainE l (es.drop (prf x))
/-- The address of a definition: that of the first of its name. -/
def adr : List (NT × List Nat) → Nat → ByteArray → Nat
  | [], _, _ => 0
  | d :: r, a, nm => if d.1.s = nm then a else adr r (a + sizs d.1.b + 1) nm
def defsC (ad : ByteArray → Nat) : List (NT × List Nat) → Nat → List IN
  | [], _ => []
  | d :: r, a => (listC ad a d.2 d.1.b).1 ++ ⟨7, eB, eB, false, 0, 0⟩ :: defsC ad r (a + sizs d.1.b + 1)
def codeW (l : List NT) (es : List Nat) : List IN :=
  (listC (adr (dfs l es) (sizs l + 1)) 0 (mainE l es) l).1 ++ ⟨9, eB, eB, false, 0, 0⟩ :: defsC (adr (dfs l es) (sizs l + 1)) (dfs l es) (sizs l + 1)
def dsz : List (NT × List Nat) → Nat | [] => 0 | d :: r => sizs d.1.b + 1 + dsz r
theorem defsC_len (ad : ByteArray → Nat) : ∀ (ds : List (NT × List Nat)) (a : Nat), (defsC ad ds a).length = dsz ds
  | [], a => rfl
  | d :: r, a => by
    unfold defsC dsz
    rw [List.length_append, List.length_cons, defsC_len ad r, (listC_ok ad d.1.b a d.2).len]
    omega
theorem codeW_len (l : List NT) (es : List Nat) : (codeW l es).length = sizs l + 1 + dsz (dfs l es) := by
  unfold codeW
  rw [List.length_append, List.length_cons, defsC_len, (listC_ok _ l 0 _).len]
  omega
theorem defsC_jok (ad : ByteArray → Nat) : ∀ (ds : List (NT × List Nat)) (a : Nat), Jok a (defsC ad ds a)
  | [], a => Jok.nil a
  | d :: r, a => by
    unfold defsC
    refine (listC_jok ad d.1.b a d.2).append (Jok.front ?_ (by simp) (by simp))
    have := defsC_jok ad r (a + sizs d.1.b + 1)
    rwa [(listC_ok ad d.1.b a d.2).len]
/-- All jumps of the whole code but those of calls. -/
theorem codeW_jok (l : List NT) (es : List Nat) : Jok 0 (codeW l es) := by
  unfold codeW
  refine (listC_jok _ l 0 _).append (Jok.front ?_ (by simp) (by simp))
  have := defsC_jok (adr (dfs l es) (sizs l + 1)) (dfs l es) (sizs l + 1)
  rwa [(listC_ok _ l 0 _).len, Nat.zero_add]
/-- Where a definition's code starts, there stands a return or the end right before it. -/
theorem defsC_start (ad : ByteArray → Nat) (nm : ByteArray) : ∀ (ds : List (NT × List Nat)) (a : Nat), (∃ d, d ∈ ds ∧ d.1.s = nm) →
    a ≤ adr ds a nm ∧ adr ds a nm < a + dsz ds ∧ (adr ds a nm = a ∨ ∃ x, (defsC ad ds a)[adr ds a nm - a - 1]? = some x ∧ x.o = 7)
  | [], a, h => by obtain ⟨d, h, _⟩ := h; cases h
  | d :: r, a, h => by
    unfold adr dsz
    by_cases hd : d.1.s = nm
    · rw [if_pos hd]; exact ⟨Nat.le_refl _, by omega, .inl rfl⟩
    · rw [if_neg hd]
      obtain ⟨h1, h2, h3⟩ := defsC_start ad nm r (a + sizs d.1.b + 1) (by
        obtain ⟨e, he, hn⟩ := h
        rcases List.mem_cons.1 he with rfl | he
        · exact absurd hn hd
        · exact ⟨e, he, hn⟩)
      refine ⟨by omega, by omega, .inr ?_⟩
      have hl := (listC_ok ad d.1.b a d.2).len
      unfold defsC
      rcases h3 with h3 | ⟨x, h3, h4⟩
      · refine ⟨⟨7, eB, eB, false, 0, 0⟩, ?_, rfl⟩
        rw [h3, List.getElem?_append_right (by omega), hl, show a + sizs d.1.b + 1 - a - 1 - sizs d.1.b = 0 by omega]
        rfl
      · by_cases h5 : adr r (a + sizs d.1.b + 1) nm = a + sizs d.1.b + 1
        · refine ⟨⟨7, eB, eB, false, 0, 0⟩, ?_, rfl⟩
          rw [h5, List.getElem?_append_right (by omega), hl, show a + sizs d.1.b + 1 - a - 1 - sizs d.1.b = 0 by omega]
          rfl
        · refine ⟨x, ?_, h4⟩
          rw [List.getElem?_append_right (by omega), hl, show adr r (a + sizs d.1.b + 1) nm - a - 1 - sizs d.1.b = (adr r (a + sizs d.1.b + 1) nm - (a + sizs d.1.b + 1) - 1) + 1 by omega, List.getElem?_cons_succ]
          exact h3
end Go.Proofs.YtpcapmdfjmpdiaaGreatDoor

namespace Go.Proofs.YtpcapmdfjmpdiaaGreatDoor
open NT
set_option linter.unusedVariables false
set_option linter.unusedSimpArgs false

/-! ### Offsets don't matter -/
def z0 (t : Tok) : Tok := { t with a := 0 }
abbrev Sm (ts us : List Tok) : Prop := ts.map z0 = us.map z0
theorem z0_eq {t u : Tok} (h : z0 t = z0 u) : t.k = u.k ∧ t.s = u.s ∧ t.p = u.p ∧ t.h = u.h := by
  unfold z0 at h
  simp only [Tok.mk.injEq] at h
  exact ⟨h.1, h.2.2.1, h.2.2.2.1, h.2.2.2.2⟩
theorem Sm.cons {t : Tok} {ts us : List Tok} (h : Sm (t :: ts) us) : ∃ u us', us = u :: us' ∧ z0 t = z0 u ∧ Sm ts us' := by
  cases us with
  | nil => simp [Sm] at h
  | cons u us =>
    unfold Sm at h
    rw [List.map_cons, List.map_cons] at h
    injection h with h1 h2
    exact ⟨u, us, rfl, h1, h2⟩
theorem Sm.nil {us : List Tok} (h : Sm [] us) : us = [] := by
  cases us with
  | nil => rfl
  | cons u us => simp [Sm] at h
theorem Sm.len {ts us : List Tok} (h : Sm ts us) : ts.length = us.length := by
  have := congrArg List.length h
  simpa using this
theorem nd_sm {t u : Tok} (h : z0 t = z0 u) (e : Bool) {b b' l l' : List NT} (hb : strips b' = strips b) (hl : strips l' = strips l) : (nd u e b' l').strip = (nd t e b l).strip := by
  obtain ⟨h1, h2, h3, h4⟩ := z0_eq h
  rw [strip_mk, strip_mk]
  show NT.mk u.k 0 (ofL u.s) (ofL u.p) u.h e none 0 (strips b') none 0 (strips l') = NT.mk t.k 0 (ofL t.s) (ofL t.p) t.h e none 0 (strips b) none 0 (strips l)
  rw [h1, h2, h3, h4, hb, hl]
theorem cons_mk {x : NT} {l : List NT} {y : List Tok × Nat} {r : PR} (h : r = .ok (l, y)) : r.cons x = .ok (x :: l, y) := by subst h; rfl
theorem pl_sm : ∀ (f : Nat) (ts us : List Tok) (op : Nat) (ie : Bool) (d c : Nat) (l : List NT) (r : List Tok) (c' : Nat), Sm ts us → pl f ts op ie d c = .ok (l, r, c') → ∃ l' r', pl f us op ie d c = .ok (l', r', c') ∧ strips l' = strips l ∧ Sm r r'
  | 0, _, _, _, _, _, _, _, _, _, _, h => by cases h
  | f + 1, [], us, op, ie, d, c, l, r, c', hs, h => by
    obtain rfl := hs.nil
    simp [pl] at h
    obtain ⟨rfl, rfl, rfl⟩ := h
    exact ⟨[], [], rfl, rfl, rfl⟩
  | f + 1, t :: ts, us, op, ie, d, c, l, r, c', hs, h => by
    obtain ⟨u, us, rfl, hz, hs⟩ := hs.cons
    obtain ⟨e1, e2, e3, e4⟩ := z0_eq hz
    have hall : Sm (t :: ts) (u :: us) := by unfold Sm; rw [List.map_cons, List.map_cons, hz, hs]
    unfold pl at h ⊢
    rw [← e1]
    by_cases h7 : t.k = 7
    · rw [if_pos h7] at h ⊢
      split at h
      · rename_i ho
        rw [if_pos ho]
        simp at h
        obtain ⟨rfl, rfl, rfl⟩ := h
        exact ⟨[], _, rfl, rfl, hall⟩
      · cases h
    rw [if_neg h7] at h ⊢
    by_cases h8 : t.k = 8
    · rw [if_pos h8] at h ⊢
      split at h
      · cases h
      · rename_i ho
        rw [if_neg ho]
        simp at h
        obtain ⟨rfl, rfl, rfl⟩ := h
        exact ⟨[], _, rfl, rfl, hall⟩
    rw [if_neg h8] at h ⊢
    by_cases hn : t.k = 6 ∧ 0 < d ∨ blk t.k = true ∧ 32 ≤ d
    · rw [if_pos hn] at h; cases h
    rw [if_neg hn] at h ⊢
    by_cases hc : 4096 ≤ c
    · rw [if_pos hc] at h; cases h
    rw [if_neg hc] at h ⊢
    cases hb : blk t.k with
    | false =>
      rw [hb, if_pos rfl] at h
      rw [if_pos rfl]
      obtain ⟨l1, rfl, h1⟩ := cons_ok h
      obtain ⟨l', r', h2, h3, h4⟩ := pl_sm f ts us _ _ _ _ _ _ _ hs h1
      exact ⟨_, r', cons_mk h2, by rw [strips_cons, strips_cons, h3, nd_sm hz false rfl rfl], h4⟩
    | true =>
      rw [hb, if_neg (by decide)] at h
      rw [if_neg (by decide)]
      cases hp : pl f ts t.k false (d + 1) (c + 1) with
      | error e => rw [hp] at h; cases h
      | ok x =>
        obtain ⟨b, r1, c1⟩ := x
        rw [hp] at h
        obtain ⟨b', r1', hp', hb', hr1⟩ := pl_sm f ts us _ _ _ _ _ _ _ hs hp
        rw [hp']
        dsimp only at h ⊢
        cases r1 with
        | nil => cases h
        | cons v r2 =>
          obtain ⟨v', r2', rfl, hv, hr2⟩ := hr1.cons
          obtain ⟨v1, _⟩ := z0_eq hv
          dsimp only at h ⊢
          rw [← v1]
          by_cases hk : v.k = 7
          · rw [if_pos hk] at h ⊢
            cases hp2 : pl f r2 t.k true (d + 1) c1 with
            | error e => rw [hp2] at h; cases h
            | ok x =>
              obtain ⟨b2, r3, c2⟩ := x
              rw [hp2] at h
              obtain ⟨b2', r3', hp2', hb2', hr3⟩ := pl_sm f r2 r2' _ _ _ _ _ _ _ hr2 hp2
              rw [hp2']
              dsimp only at h ⊢
              cases r3 with
              | nil => cases h
              | cons y r4 =>
                obtain ⟨y', r4', rfl, _, hr4⟩ := hr3.cons
                dsimp only at h ⊢
                obtain ⟨l1, rfl, h1⟩ := cons_ok h
                obtain ⟨l', r', h2, h3, h4⟩ := pl_sm f r4 r4' _ _ _ _ _ _ _ hr4 h1
                exact ⟨_, r', cons_mk h2, by rw [strips_cons, strips_cons, h3, nd_sm hz true hb' hb2'], h4⟩
          · rw [if_neg hk] at h ⊢
            obtain ⟨l1, rfl, h1⟩ := cons_ok h
            obtain ⟨l', r', h2, h3, h4⟩ := pl_sm f r2 r2' _ _ _ _ _ _ _ hr2 h1
            exact ⟨_, r', cons_mk h2, by rw [strips_cons, strips_cons, h3, nd_sm hz false hb' rfl], h4⟩
theorem P_sm {ts us : List Tok} {op : Nat} {ie : Bool} {d c : Nat} {l : List NT} {r : List Tok} {c' : Nat} (hs : Sm ts us) (h : P ts op ie d c = .ok (l, r, c')) : ∃ l' r', P us op ie d c = .ok (l', r', c') ∧ strips l' = strips l ∧ Sm r r' := by
  unfold P at h ⊢
  rw [← hs.len]
  exact pl_sm _ _ _ _ _ _ _ _ _ _ hs h
/-! ### The canonical source -/
def elT : Tok := ⟨7, 0, [], [], false⟩
def edT : Tok := ⟨8, 0, [], [], false⟩
namespace NT
mutual
def fmtN : NT → List UInt8 | mk k _ s p h e _ _ b _ _ l => fmt ⟨k.toNat, 0, toL s, toL p, h⟩ ++ (if blkI k then fmtNs b ++ ((if e then fmt elT ++ fmtNs l else []) ++ fmt edT) else [])
def fmtNs : List NT → List UInt8 | [] => [] | x :: r => fmtN x ++ fmtNs r
end
theorem fmtN_eq (t : NT) : fmtN t = fmt ⟨t.k.toNat, 0, toL t.s, toL t.p, t.h⟩ ++ (if blkI t.k then fmtNs t.b ++ ((if t.e then fmt elT ++ fmtNs t.l else []) ++ fmt edT) else []) := by cases t; rw [fmtN]; rfl
theorem fmtNs_nil : fmtNs [] = [] := by simp [fmtNs]
theorem fmtNs_cons (x : NT) (r : List NT) : fmtNs (x :: r) = fmtN x ++ fmtNs r := by simp [fmtNs]
theorem fmtNs_strip_of : ∀ l : List NT, (∀ x, x ∈ l → fmtN x.strip = fmtN x) → fmtNs (strips l) = fmtNs l
  | [], _ => by simp [strips]
  | x :: l, h => by rw [strips_cons, fmtNs_cons, fmtNs_cons, h x (by simp), fmtNs_strip_of l fun y hy => h y (by simp [hy])]
theorem fmtN_strip (t : NT) : fmtN t.strip = fmtN t := by
  refine ind (M := fun t => fmtN t.strip = fmtN t) (fun t h1 h2 => ?_) t
  rw [fmtN_eq t, strip_mk, fmtN_eq]
  show fmt ⟨t.k.toNat, 0, toL t.s, toL t.p, t.h⟩ ++ (if blkI t.k then fmtNs (strips t.b) ++ ((if t.e then fmt elT ++ fmtNs (strips t.l) else []) ++ fmt edT) else []) = _
  rw [fmtNs_strip_of _ h1, fmtNs_strip_of _ h2]
theorem fmtNs_strips (l : List NT) : fmtNs (strips l) = fmtNs l := fmtNs_strip_of l fun x _ => fmtN_strip x
theorem fmtNs_of_strips {l m : List NT} (h : strips l = strips m) : fmtNs l = fmtNs m := by rw [← fmtNs_strips l, h, fmtNs_strips]
end NT
theorem fmt_zero (t : Tok) : fmt t = fmt ⟨t.k, 0, t.s, t.p, t.h⟩ := rfl
theorem fmtN_nd (t : Tok) (e : Bool) (b l : List NT) : fmtN (nd t e b l) = fmt t ++ (if blk t.k then fmtNs b ++ ((if e then fmt elT ++ fmtNs l else []) ++ fmt edT) else []) := by
  rw [fmtN_eq, nd_k, blkI_nat]
  show fmt ⟨(t.k : Int).toNat, 0, toL (ofL t.s), toL (ofL t.p), t.h⟩ ++ _ = _
  rw [Int.toNat_natCast, toL_ofL, toL_ofL]
  rfl
/-- An Else, an End: with nothing else to it. -/
def Plain (t : Tok) : Prop := t.k = 7 ∨ t.k = 8 → t.s = [] ∧ t.p = [] ∧ t.h = false
theorem Plain.el {t : Tok} (h : Plain t) (hk : t.k = 7) : fmt t = fmt elT := by
  obtain ⟨h1, h2, h3⟩ := h (.inl hk)
  rw [fmt_zero, hk, h1, h2, h3]; rfl
theorem Plain.ed {t : Tok} (h : Plain t) (hk : t.k = 8) : fmt t = fmt edT := by
  obtain ⟨h1, h2, h3⟩ := h (.inr hk)
  rw [fmt_zero, hk, h1, h2, h3]; rfl
theorem dir_plain {ws : List (List UInt8)} {t : Tok} (h : dirOf ws = .ok t) : Plain t := by
  unfold dirOf at h
  cases hf : formW ws with
  | none => rw [hf] at h; cases h
  | some r =>
    obtain ⟨k, n, p⟩ := r
    rw [hf] at h
    dsimp only at h
    split at h
    · injection h with h
      subst h
      intro hk
      dsimp only at hk ⊢
      unfold formW at hf
      split at hf
      · cases hf
      · split at hf
        · simp at hf; omega
        · split at hf
          · simp at hf; obtain ⟨_, rfl, rfl⟩ := hf; exact ⟨rfl, rfl, rfl⟩
          · cases hf
      · split at hf
        · rename_i hh; simp at hf; omega
        · split at hf
          · rename_i hh; simp at hf; omega
          · cases hf
      · split at hf
        · simp at hf; omega
        · cases hf
      · cases hf
    · cases h
theorem lx_plain {l : List UInt8} {a : Nat} {ts : List Tok} (h : Lx l a ts) : ∀ t ∈ ts, Plain t := by
  induction h with
  | nil a => simp
  | all l a hl hf =>
    intro t ht
    simp at ht; subst ht
    intro hk; simp [text] at hk
  | text l a k ts hf _ ih =>
    intro t ht
    rcases List.mem_cons.1 ht with rfl | ht
    · intro hk; simp [text] at hk
    · exact ih t ht
  | dir l a e t ts hf hc hd _ ih =>
    intro u hu
    rcases List.mem_cons.1 hu with rfl | hu
    · exact dir_plain (t := t) hd
    · exact ih u hu
theorem pl_fmt : ∀ (f : Nat) (ts : List Tok) (op : Nat) (ie : Bool) (d c : Nat) (l : List NT) (r : List Tok) (c' : Nat), (∀ t ∈ ts, Plain t) → pl f ts op ie d c = .ok (l, r, c') → fmts ts = fmtNs l ++ fmts r ∧ ∀ t ∈ r, Plain t
  | 0, _, _, _, _, _, _, _, _, _, h => by cases h
  | f + 1, [], op, ie, d, c, l, r, c', hg, h => by
    simp [pl] at h
    obtain ⟨rfl, rfl, rfl⟩ := h
    exact ⟨by rw [fmtNs_nil]; rfl, hg⟩
  | f + 1, t :: ts, op, ie, d, c, l, r, c', hg, h => by
    have hgt : ∀ u ∈ ts, Plain u := fun u hu => hg u (by simp [hu])
    unfold pl at h
    split at h
    · split at h
      · simp at h; obtain ⟨rfl, rfl, rfl⟩ := h; exact ⟨by rw [fmtNs_nil]; rfl, hg⟩
      · cases h
    split at h
    · split at h
      · cases h
      · simp at h; obtain ⟨rfl, rfl, rfl⟩ := h; exact ⟨by rw [fmtNs_nil]; rfl, hg⟩
    split at h
    · cases h
    split at h
    · cases h
    split at h
    · rename_i hb
      obtain ⟨l1, rfl, h1⟩ := cons_ok h
      obtain ⟨e1, e2⟩ := pl_fmt f ts _ _ _ _ _ _ _ hgt h1
      refine ⟨?_, e2⟩
      rw [fmts_cons, e1, fmtNs_cons, fmtN_nd, hb, if_neg (by decide), List.append_nil, List.append_assoc]
    rename_i hb
    have hb : blk t.k = true := by simpa using hb
    split at h
    · cases h
    rename_i b r1 c1 hp
    obtain ⟨e1, e2⟩ := pl_fmt f ts _ _ _ _ _ _ _ hgt hp
    split at h
    · cases h
    rename_i u r2
    have hgu := e2 u (by simp)
    have hg2 : ∀ v ∈ r2, Plain v := fun v hv => e2 v (by simp [hv])
    split at h
    · rename_i hu
      split at h
      · cases h
      rename_i b2 r3 c2 hp2
      obtain ⟨e3, e4⟩ := pl_fmt f r2 _ _ _ _ _ _ _ hg2 hp2
      split at h
      · cases h
      rename_i v r4
      have hv8 : v.k = 8 := by
        rcases pl_stop _ _ _ _ _ _ _ _ _ _ hp2 with ⟨_, _, hh⟩ | hh
        · cases hh
        · exact hh.1
      obtain ⟨l1, rfl, h1⟩ := cons_ok h
      obtain ⟨e5, e6⟩ := pl_fmt f r4 _ _ _ _ _ _ _ (fun y hy => e4 y (by simp [hy])) h1
      refine ⟨?_, e6⟩
      rw [fmts_cons, e1, fmts_cons, e3, fmts_cons, e5, fmtNs_cons, fmtN_nd, hb, if_pos rfl, if_pos rfl, hgu.el hu, (e4 v (by simp)).ed hv8]
      simp only [List.append_assoc]
    · rename_i hu
      have hu8 : u.k = 8 := by
        rcases pl_stop _ _ _ _ _ _ _ _ _ _ hp with hh | hh
        · exact absurd hh.1 hu
        · exact hh.1
      obtain ⟨l1, rfl, h1⟩ := cons_ok h
      obtain ⟨e5, e6⟩ := pl_fmt f r2 _ _ _ _ _ _ _ hg2 h1
      refine ⟨?_, e6⟩
      rw [fmts_cons, e1, fmts_cons, e5, fmtNs_cons, fmtN_nd, hb, if_pos rfl, if_neg (by decide), hgu.ed hu8]
      simp only [List.append_assoc, List.nil_append]
/-! ### Templates of sources -/
/-- The nodes of a source of at most 5000 bytes. -/
def Parsed (l : List NT) : Prop := ∃ (x : List UInt8) (ts : List Tok) (c : Nat), x.length ≤ 5000 ∧ Lx x 0 ts ∧ P ts 0 false 0 0 = .ok (l, [], c)
theorem Parsed.fmt {l : List NT} (h : Parsed l) : ∃ ts, fmtNs l = fmts ts ∧ (fmts ts).length ≤ 5000 ∧ (∃ x, Lx x 0 ts) ∧ ∃ c, P ts 0 false 0 0 = .ok (l, [], c) := by
  obtain ⟨x, ts, c, hx, hl, hp⟩ := h
  have e := (pl_fmt _ ts _ _ _ _ _ _ _ (lx_plain hl) hp).1
  rw [fmts_nil, List.append_nil] at e
  exact ⟨ts, e.symm, Nat.le_trans (lx_len hl) hx, ⟨x, hl⟩, c, hp⟩
/-- The canonical source, parsed again. -/
theorem Parsed.again {l : List NT} (h : Parsed l) : (fmtNs l).length ≤ 5000 ∧ ∃ us l' c, Lx (fmtNs l) 0 us ∧ P us 0 false 0 0 = .ok (l', [], c) ∧ strips l' = strips l := by
  obtain ⟨ts, e, hlen, ⟨x, hl⟩, c, hp⟩ := h.fmt
  rw [e]
  obtain ⟨us, h1, h2⟩ := round_trip hl 0
  obtain ⟨l', r', h3, h4, h5⟩ := P_sm (show Sm ts us from h2.symm) hp
  obtain rfl := Sm.nil h5
  exact ⟨hlen, us, l', c, h1, h3, h4⟩
/-- The canonical sources are the same just where the nodes are, but for offsets. -/
theorem Parsed.inj {l m : List NT} (hl : Parsed l) (hm : Parsed m) : fmtNs l = fmtNs m ↔ strips l = strips m := by
  constructor
  · intro h
    obtain ⟨_, us, l', c, h1, h2, h3⟩ := hl.again
    obtain ⟨_, vs, m', c', h4, h5, h6⟩ := hm.again
    rw [h] at h1
    obtain rfl := lx_fun h1 h4
    rw [h2] at h5
    injection h5 with h5
    injection h5 with h5 _
    subst h5
    rw [← h3, h6]
  · exact fmtNs_of_strips
/-! ### What the nodes of a source are like -/
/-- The node of a token that a source can have, and so all that is in it. -/
inductive Ng : NT → Prop
  | mk (t : NT) (u : Tok) (hk : t.k = u.k) (hs : t.s = ofL u.s) (hp : t.p = ofL u.p) (hh : t.h = u.h) (hg : Good u) (hs7 : u.s.length ≤ 70000) (hp7 : u.p.length ≤ 70000) (hb : ∀ x, x ∈ t.b → Ng x) (hl : ∀ x, x ∈ t.l → Ng x) : Ng t
theorem Ng.body {t : NT} (h : Ng t) : ∀ x, x ∈ t.b → Ng x := by cases h; assumption
theorem Ng.els {t : NT} (h : Ng t) : ∀ x, x ∈ t.l → Ng x := by cases h; assumption
theorem Ng.tok {t : NT} (h : Ng t) : ∃ u : Tok, t.k = u.k ∧ t.s = ofL u.s ∧ t.p = ofL u.p ∧ t.h = u.h ∧ Good u ∧ u.s.length ≤ 70000 ∧ u.p.length ≤ 70000 ∧ u.a = 0 := by
  cases h with
  | mk t u hk hs hp hh hg hs7 hp7 _ _ => exact ⟨{ u with a := 0 }, hk, hs, hp, hh, hg, hs7, hp7, rfl⟩
theorem ng_er (t : NT) : Ng t.er → Ng t := by
  refine ind (M := fun t => Ng t.er → Ng t) (fun t h1 h2 h => ?_) t
  obtain ⟨u, e1, e2, e3, e4, e5, e6, e7, _⟩ := h.tok
  have hb := h.body
  have hl := h.els
  rw [er_b, ers_map] at hb
  rw [er_l, ers_map] at hl
  rw [er_k] at e1
  rw [er_s] at e2
  rw [er_p] at e3
  rw [er_h] at e4
  exact .mk t u e1 e2 e3 e4 e5 e6 e7 (fun x hx => h1 x hx (hb _ (List.mem_map_of_mem hx))) (fun x hx => h2 x hx (hl _ (List.mem_map_of_mem hx)))
theorem ng_ers {l m : List NT} (h : ∀ x, x ∈ l → Ng x) (he : ers m = l) : ∀ x, x ∈ m → Ng x := by
  intro x hx
  refine ng_er x (h _ ?_)
  rw [← he, ers_map]
  exact List.mem_map_of_mem hx
theorem nd_ng {t : Tok} {e : Bool} {b l : List NT} (h : Good t ∧ t.s.length ≤ 70000 ∧ t.p.length ≤ 70000) (hb : ∀ x, x ∈ b → Ng x) (hl : ∀ x, x ∈ l → Ng x) : Ng (nd t e b l) := .mk _ t rfl rfl rfl rfl h.1 h.2.1 h.2.2 hb hl
theorem pl_ng : ∀ (f : Nat) (ts : List Tok) (op : Nat) (ie : Bool) (d c : Nat) (l : List NT) (r : List Tok) (c' : Nat), (∀ t ∈ ts, Good t ∧ t.s.length ≤ 70000 ∧ t.p.length ≤ 70000) → pl f ts op ie d c = .ok (l, r, c') → (∀ x, x ∈ l → Ng x) ∧ ∀ t ∈ r, Good t ∧ t.s.length ≤ 70000 ∧ t.p.length ≤ 70000
  | 0, _, _, _, _, _, _, _, _, _, h => by cases h
  | f + 1, [], op, ie, d, c, l, r, c', hg, h => by
    simp [pl] at h
    obtain ⟨rfl, rfl, rfl⟩ := h
    exact ⟨by simp, hg⟩
  | f + 1, t :: ts, op, ie, d, c, l, r, c', hg, h => by
    have hgt : ∀ u ∈ ts, Good u ∧ u.s.length ≤ 70000 ∧ u.p.length ≤ 70000 := fun u hu => hg u (by simp [hu])
    have hg0 := hg t (by simp)
    unfold pl at h
    split at h
    · split at h
      · simp at h; obtain ⟨rfl, rfl, rfl⟩ := h; exact ⟨by simp, hg⟩
      · cases h
    split at h
    · split at h
      · cases h
      · simp at h; obtain ⟨rfl, rfl, rfl⟩ := h; exact ⟨by simp, hg⟩
    split at h
    · cases h
    split at h
    · cases h
    split at h
    · obtain ⟨l1, rfl, h1⟩ := cons_ok h
      obtain ⟨e1, e2⟩ := pl_ng f ts _ _ _ _ _ _ _ hgt h1
      refine ⟨fun x hx => ?_, e2⟩
      rcases List.mem_cons.1 hx with rfl | hx
      · exact nd_ng hg0 (by simp) (by simp)
      · exact e1 x hx
    split at h
    · cases h
    rename_i b r1 c1 hp
    obtain ⟨e1, e2⟩ := pl_ng f ts _ _ _ _ _ _ _ hgt hp
    split at h
    · cases h
    rename_i u r2
    split at h
    · split at h
      · cases h
      rename_i b2 r3 c2 hp2
      obtain ⟨e3, e4⟩ := pl_ng f r2 _ _ _ _ _ _ _ (fun v hv => e2 v (by simp [hv])) hp2
      split at h
      · cases h
      rename_i v r4
      obtain ⟨l1, rfl, h1⟩ := cons_ok h
      obtain ⟨e5, e6⟩ := pl_ng f r4 _ _ _ _ _ _ _ (fun y hy => e4 y (by simp [hy])) h1
      refine ⟨fun x hx => ?_, e6⟩
      rcases List.mem_cons.1 hx with rfl | hx
      · exact nd_ng hg0 e1 e3
      · exact e5 x hx
    · obtain ⟨l1, rfl, h1⟩ := cons_ok h
      obtain ⟨e5, e6⟩ := pl_ng f r2 _ _ _ _ _ _ _ (fun v hv => e2 v (by simp [hv])) h1
      refine ⟨fun x hx => ?_, e6⟩
      rcases List.mem_cons.1 hx with rfl | hx
      · exact nd_ng hg0 e1 (by simp)
      · exact e5 x hx
theorem Parsed.ng {l : List NT} (h : Parsed l) : ∀ x, x ∈ l → Ng x := by
  obtain ⟨x, ts, c, hx, hl, hp⟩ := h
  exact (pl_ng _ ts _ _ _ _ _ _ _ (fun t ht => by obtain ⟨h1, h2, h3, _⟩ := lx_good hl t ht; exact ⟨h1, by omega, by omega⟩) hp).1
theorem fmtNs_ers (l : List NT) : fmtNs (ers l) = fmtNs l := by
  refine fmtNs_of_strips ?_
  rw [strips_map, strips_map, ers_map, List.map_map]
  exact List.map_congr_left fun x _ => strip_er x
theorem strips_ers (l : List NT) : strips (ers l) = strips l := by
  rw [strips_map, strips_map, ers_map, List.map_map]
  exact List.map_congr_left fun x _ => strip_er x
theorem tot_pre (t : NT) : (pre t).length = t.tot := by
  have key : ∀ l : List NT, (∀ x, x ∈ l → (pre x).length = x.tot) → (pres l).length = tots l := by
    intro l
    induction l with
    | nil => intro _; simp [pres, tots]
    | cons x l ih => intro h; rw [pres_cons, tots_cons, List.length_append, h x (by simp), ih fun y hy => h y (by simp [hy])]
  refine ind (M := fun t => (pre t).length = t.tot) (fun t h1 h2 => ?_) t
  rw [pre_eq, tot_eq, List.length_cons, List.length_append, key t.b h1, key t.l h2]
  omega
theorem tots_pres (l : List NT) : (pres l).length = tots l := by
  induction l with
  | nil => simp [pres, tots]
  | cons x l ih => rw [pres_cons, tots_cons, List.length_append, tot_pre, ih]
theorem Parsed.tots {l : List NT} (h : Parsed l) : NT.tots l ≤ 5000 := by
  obtain ⟨x, ts, c, hx, hl, hp⟩ := h
  obtain ⟨_, _, _, u, hu, hs⟩ := P_good hp (by decide) (by decide)
  have h1 := hs.length_le
  rw [tots_pres, List.length_map] at h1
  have h2 := lx_count hl
  rw [hu, List.append_nil] at h2
  omega
theorem tots_ers (l : List NT) : tots (ers l) = tots l := by rw [← tots_pres, pres_er, tots_pres]
end Go.Proofs.YtpcapmdfjmpdiaaGreatDoor

namespace Go.Proofs.YtpcapmdfjmpdiaaGreatDoor
open NT
set_option linter.unusedVariables false
set_option linter.unusedSimpArgs false

/-! ### What is true of all tokens is true of all nodes -/
inductive Ag (Q : Tok → Prop) : NT → Prop
  | mk (t : NT) (u : Tok) (hk : t.k = u.k) (hs : t.s = ofL u.s) (hp : t.p = ofL u.p) (hh : t.h = u.h) (hg : Q u) (hb : ∀ x, x ∈ t.b → Ag Q x) (hl : ∀ x, x ∈ t.l → Ag Q x) : Ag Q t
theorem Ag.body {Q : Tok → Prop} {t : NT} (h : Ag Q t) : ∀ x, x ∈ t.b → Ag Q x := by cases h; assumption
theorem Ag.els {Q : Tok → Prop} {t : NT} (h : Ag Q t) : ∀ x, x ∈ t.l → Ag Q x := by cases h; assumption
theorem Ag.tok {Q : Tok → Prop} {t : NT} (h : Ag Q t) : ∃ u : Tok, t.k = u.k ∧ t.s = ofL u.s ∧ t.p = ofL u.p ∧ t.h = u.h ∧ Q u := by
  cases h with
  | mk t u hk hs hp hh hg _ _ => exact ⟨u, hk, hs, hp, hh, hg⟩
theorem nd_ag {Q : Tok → Prop} {t : Tok} {e : Bool} {b l : List NT} (h : Q t) (hb : ∀ x, x ∈ b → Ag Q x) (hl : ∀ x, x ∈ l → Ag Q x) : Ag Q (nd t e b l) := .mk _ t rfl rfl rfl rfl h hb hl
theorem pl_ag {Q : Tok → Prop} : ∀ (f : Nat) (ts : List Tok) (op : Nat) (ie : Bool) (d c : Nat) (l : List NT) (r : List Tok) (c' : Nat), (∀ t ∈ ts, Q t) → pl f ts op ie d c = .ok (l, r, c') → (∀ x, x ∈ l → Ag Q x) ∧ ∀ t ∈ r, Q t
  | 0, _, _, _, _, _, _, _, _, _, h => by cases h
  | f + 1, [], op, ie, d, c, l, r, c', hg, h => by
    simp [pl] at h
    obtain ⟨rfl, rfl, rfl⟩ := h
    exact ⟨by simp, hg⟩
  | f + 1, t :: ts, op, ie, d, c, l, r, c', hg, h => by
    have hgt : ∀ u ∈ ts, Q u := fun u hu => hg u (by simp [hu])
    have hg0 := hg t (by simp)
    unfold pl at h
    split at h
    · split at h
      · simp at h; obtain ⟨rfl, rfl, rfl⟩ := h; exact ⟨by simp, hg⟩
      · cases h
    split at h
    · split at h
      · cases h
      · simp at h; obtain ⟨rfl, rfl, rfl⟩ := h; exact ⟨by simp, hg⟩
    split at h
    · cases h
    split at h
    · cases h
    split at h
    · obtain ⟨l1, rfl, h1⟩ := cons_ok h
      obtain ⟨e1, e2⟩ := pl_ag f ts _ _ _ _ _ _ _ hgt h1
      refine ⟨fun x hx => ?_, e2⟩
      rcases List.mem_cons.1 hx with rfl | hx
      · exact nd_ag hg0 (by simp) (by simp)
      · exact e1 x hx
    split at h
    · cases h
    rename_i b r1 c1 hp
    obtain ⟨e1, e2⟩ := pl_ag f ts _ _ _ _ _ _ _ hgt hp
    split at h
    · cases h
    rename_i u r2
    split at h
    · split at h
      · cases h
      rename_i b2 r3 c2 hp2
      obtain ⟨e3, e4⟩ := pl_ag f r2 _ _ _ _ _ _ _ (fun v hv => e2 v (by simp [hv])) hp2
      split at h
      · cases h
      rename_i v r4
      obtain ⟨l1, rfl, h1⟩ := cons_ok h
      obtain ⟨e5, e6⟩ := pl_ag f r4 _ _ _ _ _ _ _ (fun y hy => e4 y (by simp [hy])) h1
      refine ⟨fun x hx => ?_, e6⟩
      rcases List.mem_cons.1 hx with rfl | hx
      · exact nd_ag hg0 e1 e3
      · exact e5 x hx
    · obtain ⟨l1, rfl, h1⟩ := cons_ok h
      obtain ⟨e5, e6⟩ := pl_ag f r2 _ _ _ _ _ _ _ (fun v hv => e2 v (by simp [hv])) h1
      refine ⟨fun x hx => ?_, e6⟩
      rcases List.mem_cons.1 hx with rfl | hx
      · exact nd_ag hg0 e1 (by simp)
      · exact e5 x hx
theorem Parsed.all {Q : Tok → Prop} (hQ : ∀ (l : List UInt8) (a : Nat) (ts : List Tok), Lx l a ts → ∀ t ∈ ts, Q t) {l : List NT} (h : Parsed l) : ∀ x, x ∈ l → Ag Q x := by
  obtain ⟨x, ts, c, hx, hl, hp⟩ := h
  exact (pl_ag _ ts _ _ _ _ _ _ _ (hQ x 0 ts hl) hp).1
/-- A token's path is valid, and empty where it has none. -/
def Pth (t : Tok) : Prop := pathL t.p = true ∧ (t.h = false → t.p = [])
theorem dir_okp {ws : List (List UInt8)} {t : Tok} (h : dirOf ws = .ok t) : Pth t := by
  unfold dirOf at h
  cases hf : formW ws with
  | none => rw [hf] at h; cases h
  | some r =>
    obtain ⟨k, n, p⟩ := r
    rw [hf] at h
    dsimp only at h
    split at h
    · rename_i ho
      injection h with h
      subst h
      unfold okF at ho
      rw [Bool.and_eq_true] at ho
      cases p with
      | none => exact ⟨rfl, fun _ => rfl⟩
      | some q => exact ⟨ho.2, fun h => by cases h⟩
    · cases h
theorem lx_pth {l : List UInt8} {a : Nat} {ts : List Tok} (h : Lx l a ts) : ∀ t ∈ ts, Pth t := by
  induction h with
  | nil a => simp
  | all l a hl hf => intro t ht; simp at ht; subst ht; exact ⟨rfl, fun _ => rfl⟩
  | text l a k ts hf _ ih =>
    intro t ht
    rcases List.mem_cons.1 ht with rfl | ht
    · exact ⟨rfl, fun _ => rfl⟩
    · exact ih t ht
  | dir l a e t ts hf hc hd _ ih =>
    intro u hu
    rcases List.mem_cons.1 hu with rfl | hu
    · exact (show Pth t from dir_okp hd)
    · exact ih u hu
theorem Parsed.pth {l : List NT} (h : Parsed l) : ∀ x, x ∈ l → Ag Pth x := h.all fun _ _ _ h => lx_pth h
/-! ### Every instruction is valid -/
/-- Valid, wherever it stands. -/
structure Vd (x : IN) : Prop where
  o : x.o ≤ 9
  sh : shapeX x.x
  p : (pathOf x.p).isSome = true
  e : x.e ≤ 4
theorem eB_path : (pathOf eB).isSome = true := rfl
theorem shape_mk {o e t : Nat} {s p : ByteArray} {h : Bool} (h1 : s.size ≠ 0 → o = 0) (h2 : p.size ≠ 0 → o = 1 ∨ o = 2 ∨ o = 4 ∨ o = 6) (h3 : h = true → o = 6) (h4 : o = 6 → h = false → p.size = 0) (h5 : e ≠ 0 → o = 1) (h6 : t ≠ 0 → 2 ≤ o ∧ o ≤ 6) : shapeX (IN.x ⟨o, s, p, h, e, t⟩) := by
  refine ⟨fun g => ?_, fun g => ?_, fun g => ?_, fun g k => ?_, fun g => ?_, fun g => ?_⟩
  · have := h1 g; show ((o : Nat) : Int) = 0; omega
  · have := h2 g; show ((o : Nat) : Int) = 1 ∨ ((o : Nat) : Int) = 2 ∨ ((o : Nat) : Int) = 4 ∨ ((o : Nat) : Int) = 6; omega
  · have := h3 g; show ((o : Nat) : Int) = 6; omega
  · have g : ((o : Nat) : Int) = 6 := g
    exact h4 (by omega) k
  · have g : ((e : Nat) : Int) ≠ 0 := g
    have := h5 (by omega); show ((o : Nat) : Int) = 1; omega
  · have g : ((t : Nat) : Int) ≠ 0 := g
    have := h6 (by omega)
    exact ⟨by show (2 : Int) ≤ ((o : Nat) : Int); omega, by show ((o : Nat) : Int) ≤ 6; omega⟩
theorem eB_size : eB.size = 0 := rfl
theorem Vd.plain {o t : Nat} (h : o ≤ 9) (ht : t ≠ 0 → 2 ≤ o ∧ o ≤ 6) : Vd ⟨o, eB, eB, false, 0, t⟩ :=
  ⟨h, shape_mk (by simp [eB_size]) (by simp [eB_size]) (by simp) (by simp [eB_size]) (by simp) ht, eB_path, Nat.zero_le _⟩
theorem Vd.path {o t : Nat} {p : ByteArray} (h : o = 2 ∨ o = 4) (hp : (pathOf p).isSome = true) : Vd ⟨o, eB, p, false, 0, t⟩ :=
  ⟨by show o ≤ 9; omega, shape_mk (by simp [eB_size]) (fun _ => by omega) (by simp) (fun h6 => by omega) (by simp) (fun _ => by omega), hp, Nat.zero_le _⟩
theorem Vd.text (s : ByteArray) : Vd ⟨0, s, eB, false, 0, 0⟩ :=
  ⟨Nat.zero_le _, shape_mk (fun _ => rfl) (by simp [eB_size]) (by simp) (by simp) (by simp) (by simp), eB_path, Nat.zero_le _⟩
theorem Vd.print {p : ByteArray} {e : Nat} (hp : (pathOf p).isSome = true) (he : e ≤ 4) : Vd ⟨1, eB, p, false, e, 0⟩ :=
  ⟨by show 1 ≤ 9; omega, shape_mk (by simp [eB_size]) (fun _ => .inl rfl) (by simp) (by simp) (fun _ => rfl) (by simp), hp, he⟩
theorem Vd.call {p : ByteArray} {h : Bool} {t : Nat} (hp : (pathOf p).isSome = true) (hh : h = false → p.size = 0) : Vd ⟨6, eB, p, h, 0, t⟩ :=
  ⟨by show 6 ≤ 9; omega, shape_mk (by simp [eB_size]) (fun _ => by omega) (fun _ => rfl) (fun _ => hh) (by simp) (fun _ => by omega), hp, Nat.zero_le _⟩
theorem ag_path {t : NT} (h : Ag Pth t) : (pathOf t.p).isSome = true ∧ (t.h = false → t.p.size = 0) := by
  obtain ⟨u, _, _, hp, hh, hg⟩ := h.tok
  refine ⟨by rw [pathOf_isSome, hp, toL_ofL]; exact hg.1, fun h => ?_⟩
  rw [hp, hg.2 (by rw [← hh]; exact h)]
  rfl
theorem headD_le {es : List Nat} (h : ∀ k, k ∈ es → k ≤ 4) : es.headD 0 ≤ 4 := by
  cases es with
  | nil => exact Nat.zero_le _
  | cons k r => exact h k (by simp)
theorem drop_le {es : List Nat} (h : ∀ k, k ∈ es → k ≤ 4) (n : Nat) : ∀ k, k ∈ es.drop n → k ≤ 4 := fun k hk => h k (List.mem_of_mem_drop hk)
theorem listC_vd_of (ad : ByteArray → Nat) (l : List NT) (h : ∀ x, x ∈ l → ∀ a es, (∀ k, k ∈ es → k ≤ 4) → ∀ y, y ∈ (nodeC ad a es x).1 → Vd y) : ∀ a es, (∀ k, k ∈ es → k ≤ 4) → ∀ y, y ∈ (listC ad a es l).1 → Vd y := by
  induction l with
  | nil => intro a es he y hy; rw [listC_nil] at hy; cases hy
  | cons x l ih =>
    intro a es he y hy
    rw [listC_cons] at hy
    rcases List.mem_append.1 hy with hy | hy
    · exact h x (by simp) a es he y hy
    · refine ih (fun z hz => h z (by simp [hz])) _ _ ?_ y hy
      rw [(nodeC_ok ad x a es).es]
      exact drop_le he _
theorem nodeC_vd (ad : ByteArray → Nat) (t : NT) : Ag Pth t → ∀ a es, (∀ k, k ∈ es → k ≤ 4) → ∀ y, y ∈ (nodeC ad a es t).1 → Vd y := by
  refine NT.ind (M := fun t => Ag Pth t → ∀ a es, (∀ k, k ∈ es → k ≤ 4) → ∀ y, y ∈ (nodeC ad a es t).1 → Vd y) (fun t hb hl ht a es he y hy => ?_) t
  have HB := listC_vd_of ad t.b (fun x hx => hb x hx (ht.body x hx))
  have HL := listC_vd_of ad t.l (fun x hx => hl x hx (ht.els x hx))
  obtain ⟨hp, hh⟩ := ag_path ht
  have hes : ∀ k, k ∈ (listC ad (a + 1) es t.b).2 → k ≤ 4 := by rw [(listC_ok ad t.b (a + 1) es).es]; exact drop_le he _
  rw [nodeC_eq] at hy
  split at hy
  · rw [List.mem_singleton] at hy; subst hy; exact Vd.text _
  split at hy
  · rw [List.mem_singleton] at hy; subst hy; exact Vd.print hp (headD_le he)
  split at hy
  · unfold ifC at hy
    split at hy
    · rcases List.mem_cons.1 hy with rfl | hy
      · exact Vd.path (.inl rfl) hp
      · rcases List.mem_append.1 hy with hy | hy
        · exact HB _ _ he y hy
        · rcases List.mem_cons.1 hy with rfl | hy
          · exact Vd.plain (by decide) (fun _ => ⟨by decide, by decide⟩)
          · exact HL _ _ hes y hy
    · rcases List.mem_cons.1 hy with rfl | hy
      · exact Vd.path (.inl rfl) hp
      · exact HB _ _ he y hy
  split at hy
  · unfold rangeC at hy
    rcases List.mem_cons.1 hy with rfl | hy
    · exact Vd.path (.inr rfl) hp
    · rcases List.mem_append.1 hy with hy | hy
      · exact HB _ _ he y hy
      · rw [List.mem_singleton] at hy; subst hy; exact Vd.plain (by decide) (fun _ => ⟨by decide, by decide⟩)
  split at hy
  · rw [List.mem_singleton] at hy; subst hy; exact Vd.call hp hh
  split at hy
  · rw [List.mem_singleton] at hy; subst hy; exact Vd.plain (by decide) (fun h => absurd rfl h)
  · cases hy
theorem listC_vd (ad : ByteArray → Nat) {l : List NT} (h : ∀ x, x ∈ l → Ag Pth x) (a : Nat) {es : List Nat} (he : ∀ k, k ∈ es → k ≤ 4) : ∀ y, y ∈ (listC ad a es l).1 → Vd y := listC_vd_of ad l (fun x hx => nodeC_vd ad x (h x hx)) a es he
theorem dfs_mem : ∀ (l : List NT) (es : List Nat) (d : NT × List Nat), d ∈ dfs l es → d.1 ∈ l ∧ d.1.k = 6 ∧ ∀ k, k ∈ d.2 → k ∈ es
  | [], es, d, h => by cases h
  | x :: l, es, d, h => by
    unfold dfs at h
    split at h
    · rename_i hk
      rcases List.mem_cons.1 h with rfl | h
      · exact ⟨by simp, hk, fun k hk => List.mem_of_mem_take hk⟩
      · obtain ⟨h1, h2, h3⟩ := dfs_mem l _ d h
        exact ⟨by simp [h1], h2, fun k hk => List.mem_of_mem_drop (h3 k hk)⟩
    · obtain ⟨h1, h2, h3⟩ := dfs_mem l _ d h
      exact ⟨by simp [h1], h2, fun k hk => List.mem_of_mem_drop (h3 k hk)⟩
theorem mainE_mem : ∀ (l : List NT) (es : List Nat) (k : Nat), k ∈ mainE l es → k ∈ es
  | [], es, k, h => by cases h
  | x :: l, es, k, h => by
    unfold mainE at h
    split at h
    · exact List.mem_of_mem_drop (mainE_mem l _ k h)
    · rcases List.mem_append.1 h with h | h
      · exact List.mem_of_mem_take h
      · exact List.mem_of_mem_drop (mainE_mem l _ k h)
theorem defsC_vd (ad : ByteArray → Nat) : ∀ (ds : List (NT × List Nat)) (a : Nat), (∀ d, d ∈ ds → (∀ x, x ∈ d.1.b → Ag Pth x) ∧ ∀ k, k ∈ d.2 → k ≤ 4) → ∀ y, y ∈ defsC ad ds a → Vd y
  | [], a, _, y, hy => by cases hy
  | d :: r, a, h, y, hy => by
    unfold defsC at hy
    rcases List.mem_append.1 hy with hy | hy
    · exact listC_vd ad (h d (by simp)).1 a (h d (by simp)).2 y hy
    · rcases List.mem_cons.1 hy with rfl | hy
      · exact Vd.plain (by decide) (fun h => absurd rfl h)
      · exact defsC_vd ad r _ (fun e he => h e (by simp [he])) y hy
theorem codeW_vd {l : List NT} (h : ∀ x, x ∈ l → Ag Pth x) {es : List Nat} (he : ∀ k, k ∈ es → k ≤ 4) : ∀ y, y ∈ codeW l es → Vd y := by
  intro y hy
  unfold codeW at hy
  rcases List.mem_append.1 hy with hy | hy
  · exact listC_vd _ h 0 (fun k hk => he k (mainE_mem l es k hk)) y hy
  · rcases List.mem_cons.1 hy with rfl | hy
    · exact Vd.plain (by decide) (fun h => absurd rfl h)
    · exact defsC_vd _ _ _ (fun d hd => by
        obtain ⟨h1, _, h3⟩ := dfs_mem l es d hd
        exact ⟨(h d.1 h1).body, fun k hk => he k (h3 k hk)⟩) y hy
/-! ### Calls -/
theorem listC_call_of (ad : ByteArray → Nat) (l : List NT) (h : ∀ x, x ∈ l → ∀ a es y, y ∈ (nodeC ad a es x).1 → y.o = 6 → ∃ c, c ∈ callN x ∧ y.t = ad c.s) : ∀ a es y, y ∈ (listC ad a es l).1 → y.o = 6 → ∃ c, c ∈ callNs l ∧ y.t = ad c.s := by
  induction l with
  | nil => intro a es y hy; rw [listC_nil] at hy; cases hy
  | cons x l ih =>
    intro a es y hy ho
    rw [listC_cons] at hy
    rw [callNs_cons]
    rcases List.mem_append.1 hy with hy | hy
    · obtain ⟨c, h1, h2⟩ := h x (by simp) a es y hy ho
      exact ⟨c, List.mem_append_left _ h1, h2⟩
    · obtain ⟨c, h1, h2⟩ := ih (fun z hz => h z (by simp [hz])) _ _ y hy ho
      exact ⟨c, List.mem_append_right _ h1, h2⟩
theorem nodeC_call (ad : ByteArray → Nat) (t : NT) : ∀ a es y, y ∈ (nodeC ad a es t).1 → y.o = 6 → ∃ c, c ∈ callN t ∧ y.t = ad c.s := by
  refine NT.ind (M := fun t => ∀ a es y, y ∈ (nodeC ad a es t).1 → y.o = 6 → ∃ c, c ∈ callN t ∧ y.t = ad c.s) (fun t hb hl a es y hy ho => ?_) t
  have HB := fun a es => listC_call_of ad t.b hb a es y
  have HL := fun a es => listC_call_of ad t.l hl a es y
  have inB : ∀ c, c ∈ callNs t.b → c ∈ callN t := fun c hc => by rw [callN_eq]; exact List.mem_append_right _ (List.mem_append_left _ hc)
  have inL : ∀ c, c ∈ callNs t.l → c ∈ callN t := fun c hc => by rw [callN_eq]; exact List.mem_append_right _ (List.mem_append_right _ hc)
  rw [nodeC_eq] at hy
  split at hy
  · rw [List.mem_singleton] at hy; subst hy; cases ho
  split at hy
  · rw [List.mem_singleton] at hy; subst hy; cases ho
  split at hy
  · unfold ifC at hy
    split at hy
    · rcases List.mem_cons.1 hy with rfl | hy
      · cases ho
      · rcases List.mem_append.1 hy with hy | hy
        · obtain ⟨c, h1, h2⟩ := HB _ _ hy ho; exact ⟨c, inB c h1, h2⟩
        · rcases List.mem_cons.1 hy with rfl | hy
          · cases ho
          · obtain ⟨c, h1, h2⟩ := HL _ _ hy ho; exact ⟨c, inL c h1, h2⟩
    · rcases List.mem_cons.1 hy with rfl | hy
      · cases ho
      · obtain ⟨c, h1, h2⟩ := HB _ _ hy ho; exact ⟨c, inB c h1, h2⟩
  split at hy
  · unfold rangeC at hy
    rcases List.mem_cons.1 hy with rfl | hy
    · cases ho
    · rcases List.mem_append.1 hy with hy | hy
      · obtain ⟨c, h1, h2⟩ := HB _ _ hy ho; exact ⟨c, inB c h1, h2⟩
      · rw [List.mem_singleton] at hy; subst hy; cases ho
  split at hy
  · rename_i h4
    rw [List.mem_singleton] at hy
    subst hy
    exact ⟨t, by rw [callN_eq, if_pos h4]; simp, rfl⟩
  split at hy
  · rw [List.mem_singleton] at hy; subst hy; cases ho
  · cases hy
theorem listC_call (ad : ByteArray → Nat) (l : List NT) (a : Nat) (es : List Nat) (y : IN) : y ∈ (listC ad a es l).1 → y.o = 6 → ∃ c, c ∈ callNs l ∧ y.t = ad c.s := listC_call_of ad l (fun x _ => nodeC_call ad x) a es y
theorem callNs_mem {l : List NT} {d c : NT} (hd : d ∈ l) (hc : c ∈ callNs d.b) : c ∈ callNs l := by
  induction l with
  | nil => cases hd
  | cons x l ih =>
    rw [callNs_cons]
    rcases List.mem_cons.1 hd with rfl | hd
    · refine List.mem_append_left _ ?_
      rw [callN_eq]
      exact List.mem_append_right _ (List.mem_append_left _ hc)
    · exact List.mem_append_right _ (ih hd)
theorem defsC_call (ad : ByteArray → Nat) : ∀ (ds : List (NT × List Nat)) (a : Nat) (y : IN), y ∈ defsC ad ds a → y.o = 6 → ∃ d c, d ∈ ds ∧ c ∈ callNs d.1.b ∧ y.t = ad c.s
  | [], a, y, hy, _ => by cases hy
  | d :: r, a, y, hy, ho => by
    unfold defsC at hy
    rcases List.mem_append.1 hy with hy | hy
    · obtain ⟨c, h1, h2⟩ := listC_call ad _ _ _ y hy ho
      exact ⟨d, c, by simp, h1, h2⟩
    · rcases List.mem_cons.1 hy with rfl | hy
      · cases ho
      · obtain ⟨e, c, h1, h2⟩ := defsC_call ad r _ y hy ho
        exact ⟨e, c, by simp [h1], h2⟩
theorem codeW_call {l : List NT} {es : List Nat} {y : IN} (hy : y ∈ codeW l es) (ho : y.o = 6) : ∃ c, c ∈ callNs l ∧ y.t = adr (dfs l es) (sizs l + 1) c.s := by
  unfold codeW at hy
  rcases List.mem_append.1 hy with hy | hy
  · exact listC_call _ _ _ _ y hy ho
  · rcases List.mem_cons.1 hy with rfl | hy
    · cases ho
    · obtain ⟨d, c, h1, h2, h3⟩ := defsC_call _ _ _ y hy ho
      exact ⟨c, callNs_mem (dfs_mem l es d h1).1 h2, h3⟩
theorem dfs_names : ∀ (l : List NT) (es : List Nat) (nm : ByteArray), nm ∈ namesN l → ∃ d, d ∈ dfs l es ∧ d.1.s = nm
  | [], es, nm, h => by cases h
  | x :: l, es, nm, h => by
    unfold dfs
    unfold namesN defsN at h
    rw [List.filter_cons] at h
    by_cases hk : x.k = 6
    · rw [if_pos (by unfold isDef; simpa using hk)] at h
      rw [if_pos hk]
      rw [List.map_cons] at h
      rcases List.mem_cons.1 h with rfl | h
      · exact ⟨(x, es.take (prf x)), List.mem_cons_self, rfl⟩
      · obtain ⟨d, h1, h2⟩ := dfs_names l (es.drop (prf x)) nm h
        exact ⟨d, by simp [h1], h2⟩
    · rw [if_neg (by unfold isDef; simpa using hk)] at h
      rw [if_neg hk]
      exact dfs_names l _ nm h
/-- A call leads to an instruction of the code before which a return or the end stands. -/
theorem codeW_target {l : List NT} {es : List Nat} {a : Int} (hc : checkN l = (a, 0)) {y : IN} (hy : y ∈ codeW l es) (ho : y.o = 6) : 1 ≤ y.t ∧ y.t < (codeW l es).length ∧ ∃ x, (codeW l es)[y.t - 1]? = some x ∧ (x.o = 9 ∨ x.o = 7) := by
  obtain ⟨c, h1, h2⟩ := codeW_call hy ho
  obtain ⟨h3, h4, h5⟩ := defsC_start (adr (dfs l es) (sizs l + 1)) c.s (dfs l es) (sizs l + 1) (dfs_names l es c.s ((checkN_ok hc).2 c h1))
  rw [← h2] at h3 h4 h5
  have hl := (listC_ok (adr (dfs l es) (sizs l + 1)) l 0 (mainE l es)).len
  refine ⟨by omega, by rw [codeW_len]; exact h4, ?_⟩
  unfold codeW
  by_cases h6 : y.t = sizs l + 1
  · refine ⟨⟨9, eB, eB, false, 0, 0⟩, ?_, .inl rfl⟩
    rw [h6, List.getElem?_append_right (by omega), hl, show sizs l + 1 - 1 - sizs l = 0 by omega]
    rfl
  · rcases h5 with h5 | ⟨x, h5, h7⟩
    · exact absurd h5 h6
    · refine ⟨x, ?_, .inr h7⟩
      rw [List.getElem?_append_right (by omega), hl, show y.t - 1 - sizs l = (y.t - (sizs l + 1) - 1) + 1 by omega, List.getElem?_cons_succ]
      exact h5
/-! ### The code passes the check -/
theorem one_ok {x : IN} {i n : Nat} (h : Vd x) (h1 : x.o = 2 ∨ x.o = 3 ∨ x.o = 4 → i < x.t ∧ x.t < n) (h2 : x.o = 5 → x.t ≤ i ∧ i < n) (h3 : x.o = 6 → x.t < n) : oneC x.x i n = 0 := by
  unfold oneC
  have ho := h.o
  have he := h.e
  have e1 : x.x.o = (x.o : Int) := rfl
  have e2 : x.x.e = (x.e : Int) := rfl
  have e3 : x.x.t = (x.t : Int) := rfl
  have e4 : x.x.p = x.p := rfl
  rw [e1, e2, e3, e4, if_neg (by omega), if_neg (by simpa using h.sh), if_neg (by have := h.p; cases hp : pathOf x.p <;> simp_all), if_neg (by omega)]
  split
  · rfl
  · rename_i ht
    have ht : 2 ≤ (x.o : Int) ∧ (x.o : Int) ≤ 6 := by simpa [hasT] using ht
    rw [if_neg]
    omega
theorem codeW_last (l : List NT) (es : List Nat) : ∃ x, (codeW l es).getLast? = some x ∧ (x.o = 9 ∨ x.o = 7) := by
  have key : ∀ (ad : ByteArray → Nat) (ds : List (NT × List Nat)) (a : Nat) (y : IN), (y.o = 9 ∨ y.o = 7) → ∃ x, (y :: defsC ad ds a).getLast? = some x ∧ (x.o = 9 ∨ x.o = 7) := by
    intro ad ds
    induction ds with
    | nil => intro a y hy; exact ⟨y, rfl, hy⟩
    | cons d r ih =>
      intro a y hy
      unfold defsC
      obtain ⟨x, h1, h2⟩ := ih (a + sizs d.1.b + 1) ⟨7, eB, eB, false, 0, 0⟩ (.inr rfl)
      refine ⟨x, ?_, h2⟩
      rw [← List.cons_append, List.getLast?_append, h1]
      rfl
  obtain ⟨x, h1, h2⟩ := key (adr (dfs l es) (sizs l + 1)) (dfs l es) (sizs l + 1) ⟨9, eB, eB, false, 0, 0⟩ (.inl rfl)
  refine ⟨x, ?_, h2⟩
  unfold codeW
  rw [List.getLast?_append, h1]
  rfl
/-- The jumps of the whole code lead into it. -/
theorem codeW_in {l : List NT} {es : List Nat} {i : Nat} {x : IN} (h : (codeW l es)[i]? = some x) (ho : x.o = 2 ∨ x.o = 3 ∨ x.o = 4) : i < x.t ∧ x.t < (codeW l es).length := by
  have hlast := codeW_last l es
  have key : ∀ (ad : ByteArray → Nat) (ds : List (NT × List Nat)) (a i : Nat) (x : IN), (defsC ad ds a)[i]? = some x → (x.o = 2 ∨ x.o = 3 ∨ x.o = 4) → a + i < x.t ∧ x.t < a + dsz ds := by
    intro ad ds
    induction ds with
    | nil => intro a i x h; simp [defsC] at h
    | cons d r ih =>
      intro a i x h ho
      unfold defsC at h
      unfold dsz
      have hl := (listC_ok ad d.1.b a d.2).len
      rw [List.getElem?_append] at h
      split at h
      · have := ((listC_jok ad d.1.b a d.2) i x h).1 ho
        omega
      · rename_i hi
        obtain ⟨m, hm⟩ : ∃ m, i = (listC ad a d.2 d.1.b).1.length + m := ⟨i - (listC ad a d.2 d.1.b).1.length, by omega⟩
        subst hm
        rw [Nat.add_sub_cancel_left] at h
        cases m with
        | zero => simp at h; subst h; simp at ho
        | succ m =>
          rw [List.getElem?_cons_succ] at h
          have := ih _ m x h ho
          omega
  unfold codeW at h
  rw [codeW_len]
  have hl := (listC_ok (adr (dfs l es) (sizs l + 1)) l 0 (mainE l es)).len
  rw [List.getElem?_append] at h
  split at h
  · have := ((listC_jok _ l 0 (mainE l es)) i x h).1 ho
    omega
  · rename_i hi
    obtain ⟨m, hm⟩ : ∃ m, i = (listC (adr (dfs l es) (sizs l + 1)) 0 (mainE l es) l).1.length + m := ⟨i - (listC (adr (dfs l es) (sizs l + 1)) 0 (mainE l es) l).1.length, by omega⟩
    subst hm
    rw [Nat.add_sub_cancel_left] at h
    cases m with
    | zero => simp at h; subst h; simp at ho
    | succ m =>
      rw [List.getElem?_cons_succ] at h
      have := key _ _ _ m x h ho
      omega
theorem codeW_check {l : List NT} {es : List Nat} {a : Int} (hc : checkN l = (a, 0)) (hl : ∀ x, x ∈ l → Ag Pth x) (he : ∀ k, k ∈ es → k ≤ 4) (hn : (codeW l es).length ≤ 65536) : checkC ((codeW l es).map IN.x) = ((codeW l es).length, 0) := by
  have hlen : ((codeW l es).map IN.x).length = (codeW l es).length := List.length_map _
  rw [← hlen]
  refine checkC_ok (by omega) (fun i y hy => ?_) ?_
  · rw [List.getElem?_map] at hy
    cases hx : (codeW l es)[i]? with
    | none => rw [hx] at hy; cases hy
    | some x =>
      rw [hx] at hy
      injection hy with hy
      subst hy
      rw [hlen]
      have hi := (List.getElem?_eq_some_iff.1 hx).1
      have hm := List.mem_of_getElem? hx
      refine one_ok (codeW_vd hl he x hm) (fun ho => codeW_in hx ho) (fun ho => ?_) (fun ho => (codeW_target hc hm ho).2.1)
      have := ((codeW_jok l es) i x hx).2 ho
      omega
  · obtain ⟨x, h1, h2⟩ := codeW_last l es
    refine ⟨x.x, by rw [List.getLast?_map, h1]; rfl, ?_⟩
    rcases h2 with h2 | h2
    · exact .inl (by show ((x.o : Nat) : Int) = 9; omega)
    · exact .inr (by show ((x.o : Nat) : Int) = 7; omega)
def IR.Fine4 : IR → Prop | .ok _ es => ∀ k, k ∈ es → k ≤ 4 | .no _ _ => True
/-- Escapers are below 5. -/
theorem listI_esc {l : List NT} {s t : HS} {es : List Nat} (h : listI s l = .ok t es) : ∀ k, k ∈ es → k ≤ 4 := by
  have next : ∀ {r : IR} {f : HS → List Nat → IR}, r.Fine4 → (∀ s es, (∀ k, k ∈ es → k ≤ 4) → (f s es).Fine4) → (r.next f).Fine4 := by
    intro r f h1 h2
    cases r with
    | no a e => exact trivial
    | ok s es => exact h2 s es h1
  have app : ∀ {a b : List Nat}, (∀ k, k ∈ a → k ≤ 4) → (∀ k, k ∈ b → k ≤ 4) → ∀ k, k ∈ a ++ b → k ≤ 4 := by
    intro a b h1 h2 k hk
    rcases List.mem_append.1 hk with h | h
    · exact h1 k h
    · exact h2 k h
  have key : ∀ l : List NT, (∀ x, x ∈ l → ∀ s, (nodeI s x).Fine4) → ∀ s, (listI s l).Fine4 := by
    intro l
    induction l with
    | nil => intro _ s; rw [listI_nil]; intro k hk; cases hk
    | cons x l ih =>
      intro h s
      rw [listI_cons]
      exact next (h x (by simp) s) fun s1 e1 h1 => next (ih (fun y hy => h y (by simp [hy])) s1) fun s2 e2 h2 => app h1 h2
  have all : ∀ x s, (nodeI s x).Fine4 := fun x => NT.ind (M := fun t => ∀ s, (nodeI s t).Fine4) (fun t hb hl s => by
    rw [nodeI_eq]
    split
    · intro k hk; cases hk
    split
    · split
      · intro k hk
        rw [List.mem_singleton] at hk
        subst hk
        unfold escS
        repeat (first | split | decide)
      · exact trivial
    split
    · exact next (key t.b hb s) fun s1 e1 h1 => next (key t.l hl s) fun s2 e2 h2 => by
        split
        · exact app h1 h2
        · exact trivial
    split
    · exact next (key t.b hb s) fun s1 e1 h1 => by
        split
        · exact h1
        · exact trivial
    split
    · split
      · intro k hk; cases hk
      · exact trivial
    split
    · exact next (key t.b hb (s0 0)) fun s1 e1 h1 => by
        split
        · exact h1
        · exact trivial
    · intro k hk; cases hk) x
  have := key l (fun x _ => all x) s
  rw [h] at this
  exact this
end Go.Proofs.YtpcapmdfjmpdiaaGreatDoor

namespace Go.Proofs.YtpcapmdfjmpdiaaGreatDoor
open Go.RowKit Go.BigFrame NT
set_option linter.unusedVariables false
set_option linter.unusedSimpArgs false

theorem callN_len (t : NT) : (callN t).length ≤ t.tot := by
  refine NT.ind (M := fun t => (callN t).length ≤ t.tot) (fun t h1 h2 => ?_) t
  have key : ∀ l : List NT, (∀ x, x ∈ l → (callN x).length ≤ x.tot) → (callNs l).length ≤ tots l := by
    intro l
    induction l with
    | nil => intro _; simp [callNs_nil, tots_nil]
    | cons x l ih =>
      intro h
      rw [callNs_cons, tots_cons, List.length_append]
      have := h x (by simp)
      have := ih fun y hy => h y (by simp [hy])
      omega
  have := key _ h1
  have := key _ h2
  rw [callN_eq, tot_eq, List.length_append, List.length_append]
  split <;> simp <;> omega
theorem callNs_len : ∀ l : List NT, (callNs l).length ≤ tots l
  | [] => by simp [callNs_nil, tots_nil]
  | x :: l => by
    rw [callNs_cons, tots_cons, List.length_append]
    have := callN_len x
    have := callNs_len l
    omega
theorem callNs_step {l : List NT} {i : Nat} {x : NT} (h : l[i]? = some x) : callNs (l.take (i + 1)) = callNs (l.take i) ++ callN x := by rw [NT.take_step h, callNs_append, callNs_cons, callNs_nil, List.append_nil]
/-- What the reference's Calls answers: the calls themselves, as they lie, in a row of its own. -/
def RcP (l : List NT) (w : World) (e : Ending) (w' : World) : Prop := ∃ A c, e = .returned (.slice A (callNs l).length c) ∧ Hid (KRow w' 69 8 NT.cs A c (callNs l)) ∧ Hid (∀ k, k ∈ rowT A → w.heap.size ≤ k) ∧ Hid (Bel w w')
theorem bel_onK14 {S : List Nat} {w w1 w2 : World} (h : Bel w w1) (ho : Only S w1 w2) (hS : ∀ k, k ∈ S → w.heap.size ≤ k) : Bel w w2 := bel_of_only ((bel_only h).join ho (fun k hk => .inr (hS k hk)))
/-- The state of the row of calls. -/
structure RkAt (w wr : World) (A : Option Addr) (q c : Nat) (done : List NT) : Prop where
  row : KRow wr 69 8 NT.cs A c done
  len : done.length = q
  fresh : ∀ k, k ∈ rowT A → w.heap.size ≤ k
  bel : Bel w wr
theorem RkAt.later {w wr w2 : World} {A : Option Addr} {q c : Nat} {done : List NT} (h : RkAt w wr A q c done) (hb : Bel wr w2) : RkAt w w2 A q c done :=
  ⟨h.row.only (bel_only hb) (by simp), h.len, h.fresh, h.bel.trans hb⟩
theorem RkAt.push {w wr w2 : World} {A A' : Option Addr} {q c c' : Nat} {done m : List NT} (h : RkAt w wr A q c done) (hR : KRow w2 69 8 NT.cs A' c' (done ++ m)) (hO : Only (rowT A) wr w2) (hK : ∀ k, k ∈ rowT A' → k ∈ rowT A ∨ k = wr.heap.size) : RkAt w w2 A' (q + m.length) c' (done ++ m) := by
  refine ⟨hR, by rw [List.length_append, h.len], fun k hk => ?_, bel_onK14 h.bel hO h.fresh⟩
  rcases hK k hk with h1 | h1
  · exact h.fresh k h1
  · have := h.bel.size; omega
theorem info_node14 : (Tryz.prog.info? 69).map (fun i => (i.zero, i.size, i.bytes)) = some (some (.agg #[.int .i64 0, .int .i64 0, .string ByteArray.empty, .string ByteArray.empty, .bool false, .bool false, .slice none 0 0, .slice none 0 0]), 8, 104) := by kernel_rfl
theorem cells_node14 : (Value.agg #[.int .i64 0, .int .i64 0, .string ByteArray.empty, .string ByteArray.empty, .bool false, .bool false, .slice none 0 0, .slice none 0 0]).cells.size = 8 := by kernel_rfl
section
variable {w : World} {ops : Array Oper} {rest : List Oper} {o : Oper} {a : Act} {Q : Exit → Act → World → Prop}
end
end Go.Proofs.YtpcapmdfjmpdiaaGreatDoor

namespace Go.Proofs.YtpcapmdfjmpdiaaGreatDoor
open NT
set_option linter.unusedVariables false
set_option linter.unusedSimpArgs false

/-- What the caller makes of the token that ended a list. -/
def fin (op : Nat) (ie : Bool) : PR → PR
  | .error e => .error e
  | .ok (l, [], c) => .ok (l, [], c)
  | .ok (l, u :: r, c) => if u.k = 7 then (if op = 2 ∧ ie = false then .ok (l, u :: r, c) else .error (u.a, 13)) else (if op = 0 then .error (u.a, 13) else .ok (l, u :: r, c))
theorem fin_cons (op : Nat) (ie : Bool) (x : NT) (r : PR) : fin op ie (r.cons x) = (fin op ie r).cons x := by
  cases r with
  | error e => rfl
  | ok y =>
    obtain ⟨l, ts, c⟩ := y
    cases ts with
    | nil => rfl
    | cons u r =>
      simp only [PR.cons, fin]
      split
      · split <;> rfl
      · split <;> rfl
theorem pl_conv (op : Nat) (ie : Bool) : ∀ (f : Nat) (ts : List Tok) (d c : Nat), pl f ts op ie d c = fin op ie (pl f ts 2 false d c)
  | 0, _, _, _ => rfl
  | f + 1, [], _, _ => rfl
  | f + 1, t :: r, d, c => by
    unfold pl
    by_cases h7 : t.k = 7
    · rw [if_pos h7, if_pos h7, if_pos (show (2 : Nat) = 2 ∧ false = false from ⟨rfl, rfl⟩)]
      simp only [fin]
      rw [if_pos h7]
    rw [if_neg h7, if_neg h7]
    by_cases h8 : t.k = 8
    · rw [if_pos h8, if_pos h8, if_neg (show ¬ ((2 : Nat) = 0) by decide)]
      simp only [fin]
      rw [if_neg h7]
    rw [if_neg h8, if_neg h8]
    by_cases hn : t.k = 6 ∧ 0 < d ∨ blk t.k = true ∧ 32 ≤ d
    · rw [if_pos hn, if_pos hn]; rfl
    rw [if_neg hn, if_neg hn]
    by_cases hc : 4096 ≤ c
    · rw [if_pos hc, if_pos hc]; rfl
    rw [if_neg hc, if_neg hc]
    cases hb : blk t.k with
    | false => rw [if_pos rfl, if_pos rfl, fin_cons, pl_conv op ie f r]
    | true =>
      rw [if_neg (by decide), if_neg (by decide)]
      cases hp : pl f r t.k false (d + 1) (c + 1) with
      | error e => rfl
      | ok x =>
        obtain ⟨b, r1, c1⟩ := x
        cases r1 with
        | nil => rfl
        | cons u r2 =>
          dsimp only
          by_cases hu : u.k = 7
          · rw [if_pos hu, if_pos hu]
            cases hp2 : pl f r2 t.k true (d + 1) c1 with
            | error e => rfl
            | ok x =>
              obtain ⟨b2, r3, c2⟩ := x
              cases r3 with
              | nil => rfl
              | cons v r4 => dsimp only; rw [fin_cons, pl_conv op ie f r4]
          · rw [if_neg hu, if_neg hu, fin_cons, pl_conv op ie f r2]
/-- A list is what it is up to any Else or End, and then what the caller makes of that token. -/
theorem P_conv (ts : List Tok) (op : Nat) (ie : Bool) (d c : Nat) : P ts op ie d c = fin op ie (P ts 2 false d c) := pl_conv op ie _ ts d c
abbrev NXR := Except (Nat × Nat) (NT × List Tok × Nat)
/-- One node: t is its token, r what is behind it. -/
def NX (t : Tok) (r : List Tok) (d c : Nat) : NXR :=
  if t.k = 6 ∧ 0 < d ∨ blk t.k = true ∧ 32 ≤ d then .error (t.a, 13)
  else if 4096 ≤ c then .error (t.a, 14)
  else if blk t.k = false then .ok (nd t false [] [], r, c + 1)
  else match P r 2 false (d + 1) (c + 1) with
    | .error e => .error e
    | .ok (b, [], _) => .error (t.a, 7)
    | .ok (b, u :: r2, c1) =>
      if u.k = 7 then
        (if t.k = 2 then match P r2 2 false (d + 1) c1 with
          | .error e => .error e
          | .ok (b2, [], _) => .error (t.a, 7)
          | .ok (b2, v :: r4, c2) => if v.k = 7 then .error (v.a, 13) else .ok (nd t true b b2, r4, c2)
        else .error (u.a, 13))
      else .ok (nd t false b [], r2, c1)
theorem P_nx {t : Tok} {r : List Tok} {d c : Nat} (h7 : t.k ≠ 7) (h8 : t.k ≠ 8) : P (t :: r) 2 false d c = match NX t r d c with
    | .error e => .error e
    | .ok (x, r', c') => (P r' 2 false d c').cons x := by
  unfold NX
  by_cases hn : t.k = 6 ∧ 0 < d ∨ blk t.k = true ∧ 32 ≤ d
  · rw [if_pos hn, P_nest h7 h8 hn]
  rw [if_neg hn]
  by_cases hc : 4096 ≤ c
  · rw [if_pos hc, P_many h7 h8 hn hc]
  rw [if_neg hc]
  cases hb : blk t.k with
  | false => rw [if_pos rfl, P_leaf h7 h8 (by omega) hb]
  | true =>
    rw [if_neg (by decide), P_step_block hn (by omega) hb, P_conv r t.k false]
    have h0 : t.k ≠ 0 := by intro h; rw [h] at hb; cases hb
    cases hp : P r 2 false (d + 1) (c + 1) with
    | error e => rfl
    | ok x =>
      obtain ⟨b, r1, c1⟩ := x
      cases r1 with
      | nil => rfl
      | cons u r2 =>
        simp only [fin]
        by_cases hu : u.k = 7
        · rw [if_pos hu, if_pos hu]
          by_cases h2 : t.k = 2
          · rw [if_pos ⟨h2, trivial⟩, if_pos h2]
            dsimp only
            rw [if_pos hu, P_conv r2 t.k true]
            cases hp2 : P r2 2 false (d + 1) c1 with
            | error e => rfl
            | ok x =>
              obtain ⟨b2, r3, c2⟩ := x
              cases r3 with
              | nil => rfl
              | cons v r4 =>
                simp only [fin]
                by_cases hv : v.k = 7
                · rw [if_pos hv, if_neg (fun h => by cases h.2), if_pos hv]
                · rw [if_neg hv, if_neg h0, if_neg hv]
          · rw [if_neg (fun h => h2 h.1), if_neg h2]
        · rw [if_neg hu, if_neg hu, if_neg h0]
          dsimp only
          rw [if_neg hu]
theorem nx_good {t : Tok} {r : List Tok} {d c : Nat} {x : NT} {r' : List Tok} {c' : Nat} (h : NX t r d c = .ok (x, r', c')) (hc : c ≤ 4096) (hd : d ≤ 32) : r'.length ≤ r.length ∧ c' ≤ 4096 := by
  unfold NX at h
  split at h
  · cases h
  rename_i hn
  split at h
  · cases h
  rename_i hc4
  split at h
  · simp at h; obtain ⟨_, rfl, rfl⟩ := h; exact ⟨Nat.le_refl _, by omega⟩
  rename_i hb
  have hb : blk t.k = true := by simpa using hb
  have hd32 : d + 1 ≤ 32 := by
    rcases Nat.lt_or_ge d 32 with h1 | h1
    · omega
    · exact absurd (.inr ⟨hb, h1⟩) hn
  split at h
  · cases h
  · cases h
  · rename_i b u r2 c1 hp
    have h1 := P_rest hp
    have h2 := P_good hp (by omega) hd32
    simp only [List.length_cons] at h1
    split at h
    · split at h
      · split at h
        · cases h
        · cases h
        · rename_i b2 v r4 c2 hp2
          have h3 := P_rest hp2
          have h4 := P_good hp2 h2.2.1 hd32
          simp only [List.length_cons] at h3
          split at h
          · cases h
          · simp at h; obtain ⟨_, rfl, rfl⟩ := h
            exact ⟨by omega, h4.2.1⟩
      · cases h
    · simp at h; obtain ⟨_, rfl, rfl⟩ := h
      exact ⟨by omega, h2.2.1⟩
end Go.Proofs.YtpcapmdfjmpdiaaGreatDoor

namespace Go.Proofs.YtpcapmdfjmpdiaaGreatDoor
open Go
set_option linter.unusedVariables false

theorem wpS_region_recover {P : Program} {Q : Exit → Act → List Frame → World → Prop} {a : Act} {cs cs' : List Frame} {w : World} {id : Nat} {ops : Array Oper} {o : Oper} {rest : List Oper} (hl : ops.toList = o :: rest)
    (hw : Region.wanted o (yielded ops a.tmps) = true) (hr : (execOp a.eval o).run P w = .ok .recover w) (v : Value) (hc : recoverD cs = some (v, cs') ∨ (recoverD cs = none ∧ v = .nilIface ∧ cs' = cs))
    (h : wpList P ops (fun e a' w' => Q e a' cs' w') rest (a.put o.dst v) w) : (Code.region id ops false).wpS P Q a cs w := by
  intro b k hb hro
  have h0 : ops[0]? = some o := by rw [← Array.getElem?_toList, hl]; rfl
  have hsz : ops.size = rest.length + 1 := by rw [← Array.length_toList, hl]; rfl
  have he : wpOps P ops (fun e a' w' => Q e a' cs' w') (List.range' 1 rest.length) = wpList P ops (fun e a' w' => Q e a' cs' w') rest :=
    wpOps_eq_wpList rest 1 (fun j => by rw [← Array.getElem?_toList, hl, Nat.add_comm]; rfl)
  rw [← he] at h
  obtain ⟨e, a', w', hq, harr⟩ := wp_ops _ _ _ h b k cs'
  have hrng : List.range ops.size = 0 :: List.range' 1 rest.length := by rw [hsz, List.range_eq_range', List.range'_succ]
  have hg := stepG_op (P := P) (b := b) (k := k) (cs := cs) (w := w) (rest := List.range' 1 rest.length) h0 hw
  have hfin : ∀ v, (b.at a (.inRegion ops (0 :: List.range' 1 rest.length) :: k)).finish v = b.at (a.put o.dst v) (.inRegion ops (List.range' 1 rest.length) :: k) := by
    intro v; rw [Frame.finish_at, h0]; rfl
  have hk : (b.at a (.inRegion ops (0 :: List.range' 1 rest.length) :: k)).kind = .deferred := hb
  have htr := tryRecover_deferred hk cs
  have hs1 : step P (lone (b.at a (.code (Code.region id ops false) :: k)) cs w) = .next (lone (b.at a (.inRegion ops (0 :: List.range' 1 rest.length) :: k)) cs w) := by
    rw [← hrng]; exact step_region
  refine ⟨e, a', cs', w', hq, .of_steps (.one hs1) (.of_steps (.one (step_lone_go ?_)) harr)⟩
  rw [hg, ← hfin]
  simp only [Frame.at] at htr ⊢
  rcases hc with hrec | ⟨hrec, rfl, rfl⟩
  · simp [stepG.apply, hr, htr, hrec]
  · simp [stepG.apply, hr, htr, hrec]
end Go.Proofs.YtpcapmdfjmpdiaaGreatDoor

namespace Go.Proofs.YtpcapmdfjmpdiaaGreatDoor
open Go.RowKit
set_option linter.unusedVariables false

section
variable {P : Program} {ops : Array Oper} {Q : Exit → Act → World → Prop} {S : World → Prop}
/-- A world that S holds of. -/
structure Held (S : World → Prop) where
  w : World
  h : S w
/-- The same, where nothing panics. -/
def calm (Q : Exit → Act → World → Prop) : Exit → Act → World → Prop
  | .panic _, _, _ => False
  | e, a, w => Q e a w
theorem calm_le (e : Exit) (a : Act) (w : World) (h : calm Q e a w) : Q e a w := by
  cases e <;> first | exact h | exact h.elim
theorem held_begin {id : Nat} {a : Act} {w : World} (hm : P.follows .mixedOrders = true)
    (h : wpAnyH P .any ops (calm Q) S ops.size (Array.replicate ops.size false) a w.drew) : (Code.region id ops true).wp P Q a w := wp_mono (wp_region_held hm h) calm_le
theorem held_seg (m : List Bool) {listed : Array Bool} {fuel : Nat} (fuel' : Nat) {a : Act} {w : World} {l : List Oper} (hs : Region.noSelect l.toArray = true) (hm : (decide (m.length ≤ l.length)) = true)
    (hok : segOk l.toArray (places 0 m) listed = true)
    (hf : fuel' + (places 0 m).length = fuel) (hS : S w)
    (h : wpMask P l.toArray (fun w' => ∃ x : Held S, w' = x.w) (fun b => wpAnyH P .any l.toArray (calm Q) S fuel' (marked listed (places 0 m)) b w) m l a) : wpAnyH P .any l.toArray (calm Q) S fuel listed a w := by
  subst hf
  refine take_list (fun w' h' => ⟨⟨w', h'⟩, rfl⟩) hs (fun _ _ _ _ _ h => h) (places 0 m) fuel' listed a w hok hS (wpSeg_of_mask m l 0 a (fun j => by simp) ?_ h)
  have := of_decide_eq_true hm
  simpa using this
theorem held_store (e : Nat) {listed : Array Bool} {fuel : Nat} {a : Act} {w w1 : World} {o : Oper} (hr : Region.ready .any ops listed = [e])
    (ho : ops[e]? = some o) (hw : Region.wanted o (yielded ops a.tmps) = true) (hrun : (execOp a.eval o).run P w = .ok .skip w1) (hS : S w1)
    (h : wpAnyH P .any ops Q S fuel (listed.setIfInBounds e true) (a.put o.dst undef) w1) :
    wpAnyH P .any ops Q S (fuel + 1) listed a w := by
  refine wpAnyH_all hr (by simp) (fun i hi => ?_)
  simp only [List.mem_singleton] at hi
  subst hi
  unfold wpOp
  simp only [ho, hw, if_true]
  refine .inl ?_
  unfold Oper.wp
  rw [hrun]
  simp only [Oper.upon]
  exact ⟨hS, h⟩
end
end Go.Proofs.YtpcapmdfjmpdiaaGreatDoor
