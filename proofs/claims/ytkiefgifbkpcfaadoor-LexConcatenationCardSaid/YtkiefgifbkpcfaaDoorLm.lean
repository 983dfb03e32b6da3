/-
  The forms as the program looks them up: the form of words as one string; names and paths word by word. No program is imported here.
-/
import Derived.Test.YtkiefgifbkpcfaaDoorLz
namespace Go.Proofs.YtkiefgifbkpcfaaDoor
set_option linter.unusedVariables false
set_option linter.unusedSimpArgs false

/-- The forms that the map holds. -/
def mapW (fs : List (List UInt8)) : Option Nat :=
  if fs = [[102, 108, 117, 115, 104]] then some 5 else if fs = [[99, 97, 108, 108], [110, 97, 109, 101], [46]] then some 4 else if fs = [[99, 97, 108, 108], [110, 97, 109, 101]] then some 4 else
  if fs = [[100, 101, 102, 105, 110, 101], [110, 97, 109, 101]] then some 6 else if fs = [[101, 110, 100]] then some 8 else if fs = [[114, 97, 110, 103, 101], [46]] then some 3 else
  if fs = [[101, 108, 115, 101]] then some 7 else if fs = [[105, 102], [46]] then some 2 else if fs = [[46]] then some 1 else none
def kindN (k : ByteArray) : Option Nat :=
  if k = ⟨#[102, 108, 117, 115, 104]⟩ then some 5 else if k = ⟨#[99, 97, 108, 108, 32, 110, 97, 109, 101, 32, 46]⟩ then some 4 else if k = ⟨#[99, 97, 108, 108, 32, 110, 97, 109, 101]⟩ then some 4 else
  if k = ⟨#[100, 101, 102, 105, 110, 101, 32, 110, 97, 109, 101]⟩ then some 6 else if k = ⟨#[101, 110, 100]⟩ then some 8 else if k = ⟨#[114, 97, 110, 103, 101, 32, 46]⟩ then some 3 else
  if k = ⟨#[101, 108, 115, 101]⟩ then some 7 else if k = ⟨#[105, 102, 32, 46]⟩ then some 2 else if k = ⟨#[46]⟩ then some 1 else none
theorem ofL_inj {a b : List UInt8} (h : ofL a = ofL b) : a = b := by
  have := congrArg toL h
  rwa [toL_ofL, toL_ofL] at this
theorem key_iff {fs lit : List (List UInt8)} (hf : ∀ w ∈ fs, Wd w) (hl : lit.all (fun w => decide (w ≠ []) && w.all (· != 32)) = true) {k : ByteArray} (hk : k = ofL (jn lit)) : (ofL (jn fs) = k) = (fs = lit) := by
  subst hk
  have hl' : ∀ w ∈ lit, Wd w := by
    intro w hw
    have := List.all_eq_true.1 hl w hw
    simp only [Bool.and_eq_true, decide_eq_true_eq] at this
    exact ⟨this.1, fun c hc => by simpa using List.all_eq_true.1 this.2 c hc⟩
  exact propext ⟨fun h => jn_inj hf hl' (ofL_inj h), fun h => by rw [h]⟩
theorem kindN_jn {fs : List (List UInt8)} (hf : ∀ w ∈ fs, Wd w) : kindN (ofL (jn fs)) = mapW fs := by
  unfold kindN mapW
  have e0 : (ofL (jn fs) = ⟨#[102, 108, 117, 115, 104]⟩) = (fs = [[102, 108, 117, 115, 104]]) := key_iff hf (by decide) rfl
  have e1 : (ofL (jn fs) = ⟨#[99, 97, 108, 108, 32, 110, 97, 109, 101, 32, 46]⟩) = (fs = [[99, 97, 108, 108], [110, 97, 109, 101], [46]]) := key_iff hf (by decide) rfl
  have e2 : (ofL (jn fs) = ⟨#[99, 97, 108, 108, 32, 110, 97, 109, 101]⟩) = (fs = [[99, 97, 108, 108], [110, 97, 109, 101]]) := key_iff hf (by decide) rfl
  have e3 : (ofL (jn fs) = ⟨#[100, 101, 102, 105, 110, 101, 32, 110, 97, 109, 101]⟩) = (fs = [[100, 101, 102, 105, 110, 101], [110, 97, 109, 101]]) := key_iff hf (by decide) rfl
  have e4 : (ofL (jn fs) = ⟨#[101, 110, 100]⟩) = (fs = [[101, 110, 100]]) := key_iff hf (by decide) rfl
  have e5 : (ofL (jn fs) = ⟨#[114, 97, 110, 103, 101, 32, 46]⟩) = (fs = [[114, 97, 110, 103, 101], [46]]) := key_iff hf (by decide) rfl
  have e6 : (ofL (jn fs) = ⟨#[101, 108, 115, 101]⟩) = (fs = [[101, 108, 115, 101]]) := key_iff hf (by decide) rfl
  have e7 : (ofL (jn fs) = ⟨#[105, 102, 32, 46]⟩) = (fs = [[105, 102], [46]]) := key_iff hf (by decide) rfl
  have e8 : (ofL (jn fs) = ⟨#[46]⟩) = (fs = [[46]]) := key_iff hf (by decide) rfl
  simp only [e0, e1, e2, e3, e4, e5, e6, e7, e8]
/-- A word's place in the form. -/
def fw (first : Bool) (w : List UInt8) : List UInt8 := if isP w then [46] else if first then w else [110, 97, 109, 101]
def formL : List (List UInt8) → List (List UInt8)
  | [] => []
  | w :: r => fw true w :: r.map (fw false)
theorem fw_wd {b : Bool} {w : List UInt8} (h : Wd w) : Wd (fw b w) := by
  unfold fw
  split
  · exact ⟨by simp, by intro c hc; simp at hc; subst hc; decide⟩
  · split
    · exact h
    · exact ⟨by simp, by intro c hc; simp at hc; rcases hc with rfl | rfl | rfl | rfl <;> decide⟩
theorem formL_wd {ws : List (List UInt8)} (h : ∀ w ∈ ws, Wd w) : ∀ w ∈ formL ws, Wd w := by
  cases ws with
  | nil => intro w hw; cases hw
  | cons x r =>
    intro w hw
    rcases List.mem_cons.1 hw with rfl | hw
    · exact fw_wd (h x (by simp))
    · obtain ⟨y, hy, rfl⟩ := List.mem_map.1 hw
      exact fw_wd (h y (by simp [hy]))
theorem formL_len (ws : List (List UInt8)) : (formL ws).length = ws.length := by cases ws <;> simp [formL]
theorem formL_at {ws : List (List UInt8)} {i : Nat} {w : List UInt8} (h : ws[i]? = some w) : (formL ws)[i]? = some (fw (decide (i = 0)) w) := by
  cases ws with
  | nil => simp at h
  | cons x r =>
    cases i with
    | zero => simp at h; subst h; simp [formL]
    | succ i => simp at h; simp [formL, h]
theorem jn_le : ∀ {ws : List (List UInt8)} {B : Nat}, (∀ w ∈ ws, w.length ≤ B) → (jn ws).length ≤ ws.length * (B + 1)
  | [], B, _ => by simp [jn]
  | w :: ws, B, h => by
    have h1 := h w (by simp)
    have h2 := jn_le (ws := ws) (B := B) fun x hx => h x (by simp [hx])
    rw [jn_cons_len, List.length_cons, Nat.add_mul, Nat.one_mul]
    split <;> omega
theorem fw_le {b : Bool} {w : List UInt8} {B : Nat} (h : w.length ≤ B) : (fw b w).length ≤ B + 4 := by
  unfold fw
  split
  · simp
  · split
    · omega
    · simp
theorem formL_le {ws : List (List UInt8)} {B : Nat} (h : ∀ w ∈ ws, w.length ≤ B) : ∀ w ∈ formL ws, w.length ≤ B + 4 := by
  intro w hw
  obtain ⟨i, hi, rfl⟩ := List.getElem_of_mem hw
  rw [formL_len] at hi
  have := formL_at (List.getElem?_eq_getElem hi)
  rw [List.getElem?_eq_getElem (by rw [formL_len]; exact hi)] at this
  injection this with this
  rw [this]
  exact fw_le (h _ (List.getElem_mem hi))
theorem kw_cases (w : List UInt8) : w = [105, 102] ∨ w = [114, 97, 110, 103, 101] ∨ w = [99, 97, 108, 108] ∨ w = [102, 108, 117, 115, 104] ∨ w = [100, 101, 102, 105, 110, 101] ∨ w = [101, 108, 115, 101] ∨ w = [101, 110, 100] ∨
    (isP w = true ∧ kw w = 1) ∨ (isP w = false ∧ kw w = 0 ∧ w ≠ [105, 102] ∧ w ≠ [114, 97, 110, 103, 101] ∧ w ≠ [99, 97, 108, 108] ∧ w ≠ [102, 108, 117, 115, 104] ∧ w ≠ [100, 101, 102, 105, 110, 101] ∧ w ≠ [101, 108, 115, 101] ∧ w ≠ [101, 110, 100]) := by
  by_cases h1 : w = [105, 102]; · exact .inl h1
  by_cases h2 : w = [114, 97, 110, 103, 101]; · exact .inr (.inl h2)
  by_cases h3 : w = [99, 97, 108, 108]; · exact .inr (.inr (.inl h3))
  by_cases h4 : w = [102, 108, 117, 115, 104]; · exact .inr (.inr (.inr (.inl h4)))
  by_cases h5 : w = [100, 101, 102, 105, 110, 101]; · exact .inr (.inr (.inr (.inr (.inl h5))))
  by_cases h6 : w = [101, 108, 115, 101]; · exact .inr (.inr (.inr (.inr (.inr (.inl h6)))))
  by_cases h7 : w = [101, 110, 100]; · exact .inr (.inr (.inr (.inr (.inr (.inr (.inl h7))))))
  cases hp : isP w with
  | true => exact .inr (.inr (.inr (.inr (.inr (.inr (.inr (.inl ⟨rfl, isP_kw hp⟩)))))))
  | false => exact .inr (.inr (.inr (.inr (.inr (.inr (.inr (.inr ⟨rfl, by simp [kw, h1, h2, h3, h4, h5, h6, h7, hp], h1, h2, h3, h4, h5, h6, h7⟩)))))))
theorem isP_cons (c : UInt8) (w : List UInt8) : isP (c :: w) = (c == 46) := rfl
theorem form_map (ws : List (List UInt8)) : mapW (formL ws) = (formW ws).map (·.1) := by
  match ws with
  | [] => rfl
  | [w] =>
    rcases kw_cases w with rfl | rfl | rfl | rfl | rfl | rfl | rfl | ⟨h1, h2⟩ | ⟨h1, h2, h3, h4, h5, h6, h7, h8, h9⟩
    iterate 7 rfl
    · rw [formW1]; simp [formL, fw, h1, h2, mapW]
    · rw [formW1]
      have h10 : w ≠ [46] := by rintro rfl; cases h1
      simp [formL, fw, h1, h2, mapW, h3, h4, h5, h6, h7, h8, h9, h10]
  | [w, x] =>
    rcases kw_cases w with rfl | rfl | rfl | rfl | rfl | rfl | rfl | ⟨h1, h2⟩ | ⟨h1, h2, h3, h4, h5, h6, h7, h8, h9⟩
    iterate 7 (rw [formW2]; cases hx : isP x <;> simp [formL, fw, hx, mapW, kw, isP_cons])
    · rw [formW2]; cases hx : isP x <;> simp [formL, fw, h1, h2, hx, mapW]
    · rw [formW2]; cases hx : isP x <;> simp [formL, fw, h1, h2, mapW, h3, h4, h5, h6, h7, h8, h9, hx]
  | [w, x, y] =>
    rcases kw_cases w with rfl | rfl | rfl | rfl | rfl | rfl | rfl | ⟨h1, h2⟩ | ⟨h1, h2, h3, h4, h5, h6, h7, h8, h9⟩
    iterate 7 (rw [formW3]; cases hx : isP x <;> cases hy : isP y <;> simp [formL, fw, hx, hy, mapW, kw, isP_cons])
    · rw [formW3]; cases hx : isP x <;> cases hy : isP y <;> simp [formL, fw, h1, h2, hx, hy, mapW]
    · rw [formW3]; cases hx : isP x <;> cases hy : isP y <;> simp [formL, fw, h1, h2, mapW, h3, h4, h5, h6, h7, h8, h9, hx, hy]
  | w :: x :: y :: z :: r => simp [formL, mapW, formW]

/-! ### Word by word -/
def dgo : Bool → List UInt8 × List UInt8 × Bool → List (List UInt8) → Except Nat (List UInt8 × List UInt8 × Bool)
  | _, st, [] => .ok st
  | first, (s, p, h), w :: r => if isP w then (if pathL w.tail then dgo false (s, w.tail, true) r else .error 11) else if first then dgo false (s, p, h) r else if nameL w then dgo false (w, p, h) r else .error 11
theorem kw_notP {w : List UInt8} (h : kw w ≠ 1) : isP w = false := by
  cases hp : isP w with
  | true => exact absurd (isP_kw hp) h
  | false => rfl
theorem dgo_form {ws : List (List UInt8)} {k : Nat} {n : List UInt8} {p : Option (List UInt8)} (h : formW ws = some (k, n, p)) : dgo true ([], [], false) ws = if okF k n p then .ok (n, p.getD [], p.isSome) else .error 11 := by
  match ws, h with
  | [], h => cases h
  | [w], h =>
    rw [formW1] at h
    split at h
    · rename_i h1
      simp only [Option.some.injEq, Prod.mk.injEq] at h
      obtain ⟨rfl, rfl, rfl⟩ := h
      cases hq : pathL w.tail <;> simp [dgo, kw_one h1, okF, hq]
    · rename_i h1
      split at h
      · rename_i h2
        simp only [Option.some.injEq, Prod.mk.injEq] at h
        obtain ⟨rfl, rfl, rfl⟩ := h
        have h4 : kw w ≠ 4 := by omega
        have h6 : kw w ≠ 6 := by omega
        simp [dgo, kw_notP h1, okF, h4, h6]
      · cases h
  | [w, x], h =>
    rw [formW2] at h
    split at h
    · rename_i h1
      simp only [Option.some.injEq, Prod.mk.injEq] at h
      obtain ⟨rfl, rfl, rfl⟩ := h
      have h4 : kw w ≠ 4 := by omega
      have h6 : kw w ≠ 6 := by omega
      have h0 : kw w ≠ 1 := by omega
      cases hq : pathL x.tail <;> simp [dgo, kw_notP h0, okF, h4, h6, h1.2, hq]
    · split at h
      · rename_i h1
        simp only [Option.some.injEq, Prod.mk.injEq] at h
        obtain ⟨rfl, rfl, rfl⟩ := h
        have h0 : kw w ≠ 1 := by omega
        have h46 := h1.1
        cases hq : nameL x <;> simp [dgo, kw_notP h0, okF, h1.2, hq, h46]
        all_goals rcases h46 with h46 | h46 <;> simp [h46]
      · cases h
  | [w, x, y], h =>
    rw [formW3] at h
    split at h
    · rename_i h1
      simp only [Option.some.injEq, Prod.mk.injEq] at h
      obtain ⟨rfl, rfl, rfl⟩ := h
      have h0 : kw w ≠ 1 := by omega
      cases hq : nameL x <;> cases hq2 : pathL y.tail <;> simp [dgo, kw_notP h0, okF, h1.2, hq, hq2]
    · cases h
  | _ :: _ :: _ :: _ :: _, h => cases h
theorem pathOf_isSome (s : ByteArray) : (pathOf s).isSome = pathL (toL s) := by
  unfold pathOf pathL
  by_cases h : s.size = 0
  · have : toL s = [] := List.length_eq_zero_iff.1 h
    simp [h, this]
  · have : toL s ≠ [] := fun e => h (by rw [← toL_len, e]; rfl)
    rw [if_neg h]
    by_cases h2 : (parts (toL s)).length ≤ 8 ∧ (parts (toL s)).all nameL = true
    · rw [if_pos h2]; simp [this, h2.1]; simpa using h2.2
    · rw [if_neg h2]
      rw [Bool.eq_iff_iff]
      simp only [Option.isSome_none, Bool.false_eq_true, Bool.or_eq_true, decide_eq_true_eq, Bool.and_eq_true, false_iff]
      rintro (h3 | h3)
      · exact this h3
      · exact h2 h3
end Go.Proofs.YtkiefgifbkpcfaaDoor
