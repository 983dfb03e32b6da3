/-
  The analysis of contexts of layer 16, further: escapers are no more than nodes, addresses do not count, a template of text only, the chapter's examples. No program is imported here.
-/
import Derived.Test.YteclclidibmajaaIn16
import Derived.Test.YteclclidibmajaaDn14
import Derived.Test.YteclclidibmajaaCuts
namespace Go.Proofs.Yteclclidibmajaa
open Go.RowKit Go.BigFrame NT
set_option linter.unusedVariables false
set_option linter.unusedSimpArgs false

/-! ### A row's first part and the rest -/
theorem NT.At.first {w : World} {Q : Nat → Prop} {A : Option Addr} {c : Nat} {l : List NT} (h : At w Q A c l) (k : Nat) : At w Q A c (l.take k) := by
  obtain ⟨⟨h1, h2, h3⟩, h4⟩ := h
  refine ⟨⟨by rw [List.length_take]; omega, h2, by rw [List.length_take]; omega⟩, fun h0 => ?_⟩
  rw [List.length_take] at h0
  obtain ⟨g, o, e, hq, hc⟩ := h4 (by omega)
  refine ⟨g, o, e, hq, fun i x hx => ?_⟩
  rw [List.getElem?_take] at hx
  split at hx
  · exact hc i x hx
  · cases hx
theorem NT.Row.first {w : World} {Q : Nat → Prop} {A : Option Addr} {c : Nat} {l : List NT} (h : Row w Q A c l) (k : Nat) : Row w Q A c (l.take k) := ⟨NT.At.first h.1 k, fun x hx => h.2 x (List.mem_of_mem_take hx)⟩
theorem NT.Row.cut {w : World} {Q : Nat → Prop} {A : Option Addr} {c : Nat} {l : List NT} (h : Row w Q A c l) (k : Nat) (hk : k ≤ l.length) : Row w Q (cutA c k 8 A) (c - k) (l.drop k) := by
  obtain ⟨⟨⟨h1, h2, h3⟩, h4⟩, h5⟩ := h
  refine ⟨⟨⟨by rw [List.length_drop]; omega, by omega, by rw [List.length_drop]; omega⟩, fun h0 => ?_⟩, fun x hx => h5 x (List.mem_of_mem_drop hx)⟩
  rw [List.length_drop] at h0
  obtain ⟨g, o, e, hq, hc⟩ := h4 (by omega)
  subst e
  refine ⟨g, o + k * 8, by unfold cutA; rw [if_neg (by omega)]; simp [add_at], hq, fun i x hx => ?_⟩
  rw [List.getElem?_drop] at hx
  have := hc (k + i) x hx
  rwa [Nat.add_mul, ← Nat.add_assoc] at this

/-! ### No more escapers than nodes -/
def IR.Len (n : Nat) : IR → Prop | .ok _ es => es.length ≤ n | .no _ _ => True
theorem IR.Len.next {n m : Nat} {r : IR} {f : HS → List Nat → IR} (h : r.Len n) (hf : ∀ s es, es.length ≤ n → (f s es).Len m) : (r.next f).Len m := by
  cases r with
  | no a e => exact trivial
  | ok s es => exact hf s es h
theorem listI_len_of (l : List NT) (h : ∀ x, x ∈ l → ∀ s, (nodeI s x).Len x.tot) : ∀ s, (listI s l).Len (tots l) := by
  induction l with
  | nil => intro s; rw [listI_nil]; exact Nat.zero_le _
  | cons x l ih =>
    intro s
    rw [listI_cons, tots_cons]
    exact (h x (by simp) s).next fun s1 e1 h1 => (ih (fun y hy => h y (by simp [hy])) s1).next fun s2 e2 h2 => by
      show (e1 ++ e2).length ≤ _
      rw [List.length_append]; omega
theorem nodeI_len (t : NT) : ∀ s, (nodeI s t).Len t.tot := by
  refine NT.ind (M := fun t => ∀ s, (nodeI s t).Len t.tot) (fun t hb hl s => ?_) t
  rw [nodeI_eq, tot_eq]
  split
  · exact Nat.zero_le _
  split
  · split
    · show 1 ≤ _; omega
    · exact trivial
  split
  · exact (listI_len_of t.b hb s).next fun s1 e1 h1 => (listI_len_of t.l hl s).next fun s2 e2 h2 => by
      split
      · show (e1 ++ e2).length ≤ _
        rw [List.length_append]; omega
      · exact trivial
  split
  · exact (listI_len_of t.b hb s).next fun s1 e1 h1 => by
      split
      · show e1.length ≤ _; omega
      · exact trivial
  split
  · split
    · exact Nat.zero_le _
    · exact trivial
  split
  · exact (listI_len_of t.b hb (s0 0)).next fun s1 e1 h1 => by
      split
      · show e1.length ≤ _; omega
      · exact trivial
  · exact Nat.zero_le _
theorem listI_len (l : List NT) (s : HS) : (listI s l).Len (tots l) := listI_len_of l (fun x _ => nodeI_len x) s
theorem listI_le {l : List NT} {s t : HS} {es : List Nat} (h : listI s l = .ok t es) : es.length ≤ tots l := by have := listI_len l s; rw [h] at this; exact this
theorem nodeI_le {x : NT} {s t : HS} {es : List Nat} (h : nodeI s x = .ok t es) : es.length ≤ x.tot := by have := nodeI_len x s; rw [h] at this; exact this

/-! ### Addresses do not count -/
theorem listI_ers_of (l : List NT) (h : ∀ x, x ∈ l → ∀ s, nodeI s x.er = nodeI s x) : ∀ s, listI s (ers l) = listI s l := by
  induction l with
  | nil => intro s; rw [show ers [] = [] from by simp [ers]]
  | cons x l ih =>
    intro s
    rw [show ers (x :: l) = x.er :: ers l from by simp [ers], listI_cons, listI_cons, h x (by simp) s]
    congr 1
    funext s1 e1
    rw [ih (fun y hy => h y (by simp [hy])) s1]
theorem nodeI_er (t : NT) : ∀ s, nodeI s t.er = nodeI s t := by
  refine NT.ind (M := fun t => ∀ s, nodeI s t.er = nodeI s t) (fun t hb hl s => ?_) t
  rw [nodeI_eq, nodeI_eq, er_k, er_a, er_s, er_b, er_l, listI_ers_of t.b hb, listI_ers_of t.b hb]
  simp only [listI_ers_of t.l hl]
theorem listI_ers (l : List NT) (s : HS) : listI s (ers l) = listI s l := listI_ers_of l (fun x _ => nodeI_er x) s
theorem last_ers (l : List NT) : (ers l).getLast?.map NT.a = l.getLast?.map NT.a := by
  rw [ers_map, List.getLast?_map, Option.map_map]
  congr 1
  funext x
  exact er_a x
theorem inferI_ers (l : List NT) : inferI (ers l) = inferI l := by
  unfold inferI
  rw [listI_ers, last_ers]

/-! ### A template of text only -/
theorem P_head {t : Tok} {r : List Tok} {d c : Nat} {l : List NT} {r' : List Tok} {c' : Nat} (h : P (t :: r) 0 false d c = .ok (l, r', c')) :
    ∃ e b b2 l', l = nd t e b b2 :: l' ∧ (blk t.k = false → P r 0 false d (c + 1) = .ok (l', r', c')) := by
  by_cases h7 : t.k = 7
  · rw [P_else h7, if_neg (by simp)] at h; cases h
  by_cases h8 : t.k = 8
  · rw [P_end h8, if_pos rfl] at h; cases h
  by_cases hn : t.k = 6 ∧ 0 < d ∨ blk t.k = true ∧ 32 ≤ d
  · rw [P_nest h7 h8 hn] at h; cases h
  by_cases hc : 4096 ≤ c
  · rw [P_many h7 h8 hn hc] at h; cases h
  by_cases hb : blk t.k = true
  · rw [P_step_block hn (by omega) hb] at h
    cases hp : P r t.k false (d + 1) (c + 1) with
    | error e => rw [hp] at h; cases h
    | ok x =>
      obtain ⟨b, r1, c1⟩ := x
      rw [hp] at h
      cases r1 with
      | nil => cases h
      | cons u r2 =>
        dsimp only at h
        by_cases hu : u.k = 7
        · rw [if_pos hu] at h
          cases hp2 : P r2 t.k true (d + 1) c1 with
          | error e => rw [hp2] at h; cases h
          | ok x =>
            obtain ⟨b2, r3, c2⟩ := x
            rw [hp2] at h
            cases r3 with
            | nil => cases h
            | cons v r4 =>
              dsimp only at h
              obtain ⟨l', e1, e2⟩ := cons_ok h
              exact ⟨_, _, _, l', e1, fun h => by rw [hb] at h; cases h⟩
        · rw [if_neg hu] at h
          obtain ⟨l', e1, e2⟩ := cons_ok h
          exact ⟨_, _, _, l', e1, fun h => by rw [hb] at h; cases h⟩
  · have hb' : blk t.k = false := by simpa using hb
    rw [P_leaf h7 h8 (by omega) hb'] at h
    obtain ⟨l', e1, e2⟩ := cons_ok h
    exact ⟨_, _, _, l', e1, fun _ => e2⟩
theorem P_one {ts : List Tok} {c : Nat} {x : NT} (h : P ts 0 false 0 0 = .ok ([x], [], c)) (hk : x.k = 0) : ∃ t, ts = [t] ∧ x.s = ofL t.s ∧ t.k = 0 := by
  cases ts with
  | nil => rw [P_nil] at h; simp at h
  | cons t r =>
    obtain ⟨e, b, b2, l', e1, h2⟩ := P_head h
    simp only [List.cons.injEq] at e1
    obtain ⟨rfl, rfl⟩ := e1
    have hk0 : t.k = 0 := by
      have : ((t.k : Nat) : Int) = 0 := hk
      omega
    refine ⟨t, ?_, rfl, hk0⟩
    have h3 := h2 (by rw [hk0]; rfl)
    cases r with
    | nil => rfl
    | cons u r =>
      obtain ⟨_, _, _, _, e2, _⟩ := P_head h3
      cases e2
/-- A source whose only node is a text is that text. -/
theorem text_all {l : List UInt8} {t : Tok} (h : Lx l 0 [t]) (hk : t.k = 0) : t.s = l := by
  cases h with
  | all _ _ h1 h2 => rfl
  | text _ _ k ts h1 h2 =>
    show l.take (k + 1) = l
    have h3 : l.drop (k + 1) = [] := by
      generalize l.drop (k + 1) = m at h2
      generalize 0 + (k + 1) = a at h2
      cases h2 with
      | nil => rfl
    rw [List.drop_eq_nil_iff] at h3
    exact List.take_of_length_le h3
  | dir _ _ e t' ts h1 h2 h3 h4 => exact absurd hk (dir_good h3 dir_words).1

/-! ### The chapter's examples -/
/-- `<a href="{{.u}}">{{.t}}</a>` -/
def axS : ByteArray := ⟨#[60, 97, 32, 104, 114, 101, 102, 61, 34, 123, 123, 46, 117, 125, 125, 34, 62, 123, 123, 46, 116, 125, 125, 60, 47, 97, 62]⟩
def axT : List Tok := [⟨0, 0, [60, 97, 32, 104, 114, 101, 102, 61, 34], [], false⟩, ⟨1, 9, [], [117], true⟩, ⟨0, 15, [34, 62], [], false⟩, ⟨1, 17, [], [116], true⟩, ⟨0, 23, [60, 47, 97, 62], [], false⟩]
def axN : List NT := axT.map fun t => nd t false [] []
/-- `{{if .a}}<b {{end}}x` -/
def ayS : ByteArray := ⟨#[123, 123, 105, 102, 32, 46, 97, 125, 125, 60, 98, 32, 123, 123, 101, 110, 100, 125, 125, 120]⟩
def ayT : List Tok := [⟨2, 0, [], [97], true⟩, ⟨0, 9, [60, 98, 32], [], false⟩, ⟨8, 12, [], [], false⟩, ⟨0, 19, [120], [], false⟩]
def ayN : List NT := [nd ⟨2, 0, [], [97], true⟩ false [nd ⟨0, 9, [60, 98, 32], [], false⟩ false [] []] [], nd ⟨0, 19, [120], [], false⟩ false [] []]
theorem lx_txt16 {l : List UInt8} {s r : List UInt8} {a k : Nat} {ts : List Tok} (hl : l = s ++ r) (h : find2 123 (s ++ r) = some (k + 1)) (hs : s.length = k + 1) (hr : Lx r (a + (k + 1)) ts) : Lx l a (⟨0, a, s, [], false⟩ :: ts) := by
  subst hl
  have h1 : (s ++ r).drop (k + 1) = r := by rw [← hs, List.drop_left]
  have h2 : (s ++ r).take (k + 1) = s := by rw [← hs, List.take_left]
  have := Lx.text (s ++ r) a k ts h (by rw [h1]; exact hr)
  rw [h2] at this
  exact this
def dirU : List UInt8 := [123, 123, 46, 117, 125, 125]
def dirV : List UInt8 := [123, 123, 46, 116, 125, 125]
def dirI : List UInt8 := [123, 123, 105, 102, 32, 46, 97, 125, 125]
theorem ax_lex0 : Lx (toL axS) 0 axT :=
  lx_txt16 (s := [60, 97, 32, 104, 114, 101, 102, 61, 34]) (k := 8) rfl (by decide +kernel) rfl <|
  (show DirOf dirU ⟨1, 0, [], [117], true⟩ from dirB_of (by decide +kernel)).lx <|
  lx_txt16 (s := [34, 62]) (k := 1) rfl (by decide +kernel) rfl <|
  (show DirOf dirV ⟨1, 0, [], [116], true⟩ from dirB_of (by decide +kernel)).lx <|
  Lx.all [60, 47, 97, 62] _ (by decide) (by decide +kernel)
theorem ay_lex0 : Lx (toL ayS) 0 ayT :=
  (show DirOf dirI ⟨2, 0, [], [97], true⟩ from dirB_of (by decide +kernel)).lx <|
  lx_txt16 (s := [60, 98, 32]) (k := 2) rfl (by decide +kernel) rfl <|
  end_dir.lx <|
  Lx.all [120] _ (by decide) (by decide +kernel)
theorem ax_par0 : P axT 0 false 0 0 = .ok (axN, [], 5) := rfl
theorem ay_par0 : P ayT 0 false 0 0 = .ok (ayN, [], 3) := rfl
theorem nodeI_text {s t : HS} {x : NT} (hk : x.k = 0) (h : runS s x.s.data.toList = t) : nodeI s x = .ok t [] := by rw [nodeI_eq, if_pos hk, h]
theorem nodeI_print {s : HS} {x : NT} {k : Nat} (hk : x.k = 1) (h : escS s = (k, true)) : nodeI s x = .ok s [k] := by rw [nodeI_eq, if_neg (by rw [hk]; decide), if_pos hk, h]; rfl
theorem ax_infer : inferI axN = ([2, 0], 0, 0) := by
  have h : listI (s0 0) axN = .ok (s0 0) [2, 0] := by
    unfold axN axT
    simp only [List.map_cons, List.map_nil]
    rw [listI_cons, nodeI_text (t := ⟨9, [97], [], []⟩) rfl ((eqH_iff _ _).1 (by decide +kernel)), IR.next_ok, listI_cons, nodeI_print (k := 2) rfl rfl, IR.next_ok, listI_cons, nodeI_text (t := s0 0) rfl ((eqH_iff _ _).1 (by decide +kernel)), IR.next_ok,
      listI_cons, nodeI_print (k := 0) rfl rfl, IR.next_ok, listI_cons, nodeI_text (t := s0 0) rfl ((eqH_iff _ _).1 (by decide +kernel)), IR.next_ok, listI_nil]
    rfl
  unfold inferI
  rw [h]
  rfl
theorem ay_infer : inferI ayN = ([], 0, 16) := by
  have h : listI (s0 0) ayN = .no 0 16 := by
    unfold ayN
    rw [listI_cons, nodeI_eq, if_neg (by decide), if_neg (by decide), if_pos (by decide)]
    show (IR.next (IR.next (listI _ [_]) _) _) = _
    rw [listI_cons, nodeI_text (t := ⟨1, [98], [], []⟩) rfl ((eqH_iff _ _).1 (by decide +kernel)), IR.next_ok, listI_nil, IR.next_ok, IR.next_ok]
    show (IR.next (IR.next (listI _ []) _) _) = _
    rw [listI_nil]
    rfl
  unfold inferI
  rw [h]
end Go.Proofs.Yteclclidibmajaa
