/-
  Contract: the reference's form, put together.
-/
import Derived.Test.YtkiefgifbkpcfaaDoorRf11A
import Derived.Test.YtkiefgifbkpcfaaDoorRf11B
import Derived.Test.YtkiefgifbkpcfaaDoorRf11C
import Derived.Test.YtkiefgifbkpcfaaDoorRf11D
namespace Go.Proofs.YtkiefgifbkpcfaaDoor
open Go.RowKit Go.BigFrame
set_option linter.unusedVariables false
set_option linter.unusedSimpArgs false

theorem str_ne {x : ByteArray} {l : List UInt8} (h : toL x ≠ l) : x ≠ ⟨l.toArray⟩ := fun e => h (by rw [e]; rfl)
theorem form_nil (c : Nat) (A : Option Addr) (hc : c ≤ maxLen) (w : World) : Calls Tryd.prog 21 #[.slice A 0 c] w (FormPost [] w) := by
  go_enter Tryd.func21, Tryd.ntmps21
  go_wp2_with fail
  refine bodyPost_ret (done3 rfl rfl rfl rfl (one5 _ _ _ _ _) ((Blk.new w 35 [_, _, _, _, _]).alloc _)) rfl ?_
  refine ⟨(Bel.alloc w _).trans (Bel.alloc _ _), ?_⟩
  exact ⟨_, _, _, _, _, rfl⟩
theorem none4 (w x y z : List UInt8) (r : List (List UInt8)) : formW (w :: x :: y :: z :: r) = none := rfl
theorem form_c (A : Option Addr) (c : Nat) (ws : List ByteArray) (w : World) (hS : Strs w A ws) (hw : ∀ x ∈ ws, Wd (toL x) ∧ x.size ≤ 70000) (hn : ws.length ≤ c) (hc : c ≤ maxLen) :
    Calls Tryd.prog 21 #[.slice A ws.length c] w (FormPost (ws.map toL) w) := by
  have hsz : ∀ x ∈ ws, 0 < x.size ∧ x.size ≤ 70000 := fun x hx => ⟨by rw [← toL_len]; exact List.length_pos_iff.2 (hw x hx).1.1, (hw x hx).2⟩
  match ws, hS, hn, hsz with
  | [], _, _, _ => exact form_nil c A hc w
  | w0 :: r0, hS, hn, hsz =>
    obtain ⟨g, o, rfl, hg, hc0⟩ := strs_at hS (i := 0) (by simp)
    have hcell : ∀ i, i < (w0 :: r0).length → w.cell? ⟨g, o + i, none⟩ = some (.string ((w0 :: r0).getD i ByteArray.empty)) := by
      intro i hi
      obtain ⟨g', o', e, _, h⟩ := strs_at hS hi
      simp only [Option.some.injEq, Addr.mk.injEq, and_true] at e
      obtain ⟨rfl, rfl⟩ := e
      exact h
    have h0 := hsz w0 (by simp)
    have e0 : w.cell? ⟨g, o, none⟩ = some (.string w0) := hc0
    clear hS hc0
    rcases kw_cases (toL w0) with h | h | h | h | h | h | h | ⟨hp0, hk0⟩ | ⟨hp0, hk0, d1, d2, d3, d4, d5, d6, d7⟩
    all_goals first | (have hx0 := lit_words h; subst hx0; clear h) | skip
    -- if
    · match r0, hn, hsz, hcell with
      | [], hn, hsz, hcell => exact form_2_0_ hg e0 hn hc
      | [x], hn, hsz, hcell =>
        have h1 := hsz x (by simp)
        have e1 : w.cell? ⟨g, o + 1, none⟩ = some (.string x) := hcell 1 (by simp)
        cases hp : isP (toL x) with
        | false => exact form_2_1_n x hg e0 e1 hn hc h1 hp
        | true => exact form_2_1_p x hg e0 e1 hn hc h1 hp
      | x :: y :: r, hn, hsz, hcell =>
        have h1 := hsz x (by simp)
        have e1 : w.cell? ⟨g, o + 1, none⟩ = some (.string x) := hcell 1 (by simp)
        have hF : formW ([105, 102] :: toL x :: (y :: r).map toL) = none := by cases r with | nil => rw [List.map_singleton, formW3]; simp [kw] | cons z r => rfl
        cases hp : isP (toL x) with
        | false => exact form_2_1m_n x (y :: r) _ (by simp) hg e0 e1 hn hc h1 hp hF
        | true => exact form_2_1m_p x (y :: r) _ (by simp) hg e0 e1 hn hc h1 hp hF
    -- range
    · match r0, hn, hsz, hcell with
      | [], hn, hsz, hcell => exact form_3_0_ hg e0 hn hc
      | [x], hn, hsz, hcell =>
        have h1 := hsz x (by simp)
        have e1 : w.cell? ⟨g, o + 1, none⟩ = some (.string x) := hcell 1 (by simp)
        cases hp : isP (toL x) with
        | false => exact form_3_1_n x hg e0 e1 hn hc h1 hp
        | true => exact form_3_1_p x hg e0 e1 hn hc h1 hp
      | x :: y :: r, hn, hsz, hcell =>
        have h1 := hsz x (by simp)
        have e1 : w.cell? ⟨g, o + 1, none⟩ = some (.string x) := hcell 1 (by simp)
        have hF : formW ([114, 97, 110, 103, 101] :: toL x :: (y :: r).map toL) = none := by cases r with | nil => rw [List.map_singleton, formW3]; simp [kw] | cons z r => rfl
        cases hp : isP (toL x) with
        | false => exact form_3_1m_n x (y :: r) _ (by simp) hg e0 e1 hn hc h1 hp hF
        | true => exact form_3_1m_p x (y :: r) _ (by simp) hg e0 e1 hn hc h1 hp hF
    -- call
    · match r0, hn, hsz, hcell with
      | [], hn, hsz, hcell => exact form_4_0_ hg e0 hn hc
      | [x], hn, hsz, hcell =>
        have h1 := hsz x (by simp)
        have e1 : w.cell? ⟨g, o + 1, none⟩ = some (.string x) := hcell 1 (by simp)
        cases hp : isP (toL x) with
        | false => exact form_4_1_n x hg e0 e1 hn hc h1 hp
        | true => exact form_4_1_p x hg e0 e1 hn hc h1 hp
      | [x, y], hn, hsz, hcell =>
        have h1 := hsz x (by simp)
        have h2 := hsz y (by simp)
        have e1 : w.cell? ⟨g, o + 1, none⟩ = some (.string x) := hcell 1 (by simp)
        have e2 : w.cell? ⟨g, o + 2, none⟩ = some (.string y) := hcell 2 (by simp)
        cases hp : isP (toL x) with
        | true => exact form_4_1m_p x [y] _ (by simp) hg e0 e1 hn hc h1 hp (by rw [List.map_singleton, formW3]; simp [hp])
        | false =>
          cases hq : isP (toL y) with
          | false => exact form_4_2_nn x y hg e0 e1 e2 hn hc h1 hp h2 hq
          | true => exact form_4_2_np x y hg e0 e1 e2 hn hc h1 hp h2 hq
      | x :: y :: z :: r, hn, hsz, hcell =>
        have h1 := hsz x (by simp)
        have h2 := hsz y (by simp)
        have e1 : w.cell? ⟨g, o + 1, none⟩ = some (.string x) := hcell 1 (by simp)
        have e2 : w.cell? ⟨g, o + 2, none⟩ = some (.string y) := hcell 2 (by simp)
        cases hp : isP (toL x) with
        | true => exact form_4_1m_p x (y :: z :: r) _ (by simp) hg e0 e1 hn hc h1 hp rfl
        | false =>
          cases hq : isP (toL y) with
          | false => exact form_4_2m_nn x y (z :: r) _ (by simp) hg e0 e1 e2 hn hc h1 hp h2 hq rfl
          | true => exact form_4_2m_np x y (z :: r) _ (by simp) hg e0 e1 e2 hn hc h1 hp h2 hq rfl
    -- flush
    · match r0, hn, hsz, hcell with
      | [], hn, hsz, hcell => exact form_5_0_ hg e0 hn hc
      | x :: r, hn, hsz, hcell =>
        have hF : formW ([102, 108, 117, 115, 104] :: (x :: r).map toL) = none := by
          match r with
          | [] => rw [List.map_singleton, formW2]; simp [kw]
          | [y] => rw [List.map_cons, List.map_singleton, formW3]; simp [kw]
          | y :: z :: r => rfl
        exact form_5_0m_ (x :: r) _ (by simp) hg e0 hn hc hF
    -- define
    · match r0, hn, hsz, hcell with
      | [], hn, hsz, hcell => exact form_6_0_ hg e0 hn hc
      | [x], hn, hsz, hcell =>
        have h1 := hsz x (by simp)
        have e1 : w.cell? ⟨g, o + 1, none⟩ = some (.string x) := hcell 1 (by simp)
        cases hp : isP (toL x) with
        | false => exact form_6_1_n x hg e0 e1 hn hc h1 hp
        | true => exact form_6_1_p x hg e0 e1 hn hc h1 hp
      | x :: y :: r, hn, hsz, hcell =>
        have h1 := hsz x (by simp)
        have e1 : w.cell? ⟨g, o + 1, none⟩ = some (.string x) := hcell 1 (by simp)
        have hF : formW ([100, 101, 102, 105, 110, 101] :: toL x :: (y :: r).map toL) = none := by cases r with | nil => rw [List.map_singleton, formW3]; simp [kw] | cons z r => rfl
        cases hp : isP (toL x) with
        | false => exact form_6_1m_n x (y :: r) _ (by simp) hg e0 e1 hn hc h1 hp hF
        | true => exact form_6_1m_p x (y :: r) _ (by simp) hg e0 e1 hn hc h1 hp hF
    -- else
    · match r0, hn, hsz, hcell with
      | [], hn, hsz, hcell => exact form_7_0_ hg e0 hn hc
      | x :: r, hn, hsz, hcell =>
        have hF : formW ([101, 108, 115, 101] :: (x :: r).map toL) = none := by
          match r with
          | [] => rw [List.map_singleton, formW2]; simp [kw]
          | [y] => rw [List.map_cons, List.map_singleton, formW3]; simp [kw]
          | y :: z :: r => rfl
        exact form_7_0m_ (x :: r) _ (by simp) hg e0 hn hc hF
    -- end
    · match r0, hn, hsz, hcell with
      | [], hn, hsz, hcell => exact form_8_0_ hg e0 hn hc
      | x :: r, hn, hsz, hcell =>
        have hF : formW ([101, 110, 100] :: (x :: r).map toL) = none := by
          match r with
          | [] => rw [List.map_singleton, formW2]; simp [kw]
          | [y] => rw [List.map_cons, List.map_singleton, formW3]; simp [kw]
          | y :: z :: r => rfl
        exact form_8_0m_ (x :: r) _ (by simp) hg e0 hn hc hF
    -- a path
    · have d0 : w0 ≠ ⟨#[105, 102]⟩ ∧ w0 ≠ ⟨#[114, 97, 110, 103, 101]⟩ ∧ w0 ≠ ⟨#[99, 97, 108, 108]⟩ ∧ w0 ≠ ⟨#[102, 108, 117, 115, 104]⟩ ∧ w0 ≠ ⟨#[100, 101, 102, 105, 110, 101]⟩ ∧ w0 ≠ ⟨#[101, 108, 115, 101]⟩ ∧ w0 ≠ ⟨#[101, 110, 100]⟩ := by
        refine ⟨?_, ?_, ?_, ?_, ?_, ?_, ?_⟩ <;> (rintro rfl; revert hp0; decide)
      match r0, hn, hsz, hcell with
      | [], hn, hsz, hcell => exact form_1_0_ w0 hg e0 hn hc h0 hp0 hk0 d0
      | x :: r, hn, hsz, hcell =>
        have hF : formW (toL w0 :: (x :: r).map toL) = none := by
          match r with
          | [] => rw [List.map_singleton, formW2]; simp [hk0]
          | [y] => rw [List.map_cons, List.map_singleton, formW3]; simp [hk0]
          | y :: z :: r => rfl
        exact form_1_0m_ w0 (x :: r) _ (by simp) hg e0 hn hc h0 hp0 hk0 d0 hF
    -- none
    · have d0 := And.intro (str_ne d1) (And.intro (str_ne d2) (And.intro (str_ne d3) (And.intro (str_ne d4) (And.intro (str_ne d5) (And.intro (str_ne d6) (str_ne d7))))))
      match r0, hn, hsz, hcell with
      | [], hn, hsz, hcell => exact form_0_0_ w0 hg e0 hn hc h0.1 hp0 hk0 d0
      | x :: r, hn, hsz, hcell =>
        have hF : formW (toL w0 :: (x :: r).map toL) = none := by
          match r with
          | [] => rw [List.map_singleton, formW2]; simp [hk0]
          | [y] => rw [List.map_cons, List.map_singleton, formW3]; simp [hk0]
          | y :: z :: r => rfl
        exact form_0_0m_ w0 (x :: r) _ (by simp) hg e0 hn hc h0.1 hp0 hk0 d0 hF
end Go.Proofs.YtkiefgifbkpcfaaDoor
