/-
  The tables that utf8.DecodeRune reads; its contract at a byte (the shelf's laying laysDR).
-/
import Derived.Test.YtfchkaoifbcgkaaDoorTz
import Derived.Laws.RangeAny
import Derived.RegionTactic
import Derived.ChangeAlike
import Derived.Deep.QuietTactic
import Derived.BigQuiet
namespace Go.Proofs.YtfchkaoifbcgkaaDoor
open Go.RowKit Go.BigFrame
set_option linter.unusedVariables false
set_option linter.unusedSimpArgs false
attribute [local go_sem ↓] sliced_cut run_min2 run_max2
attribute [local go_sem] cutA_zero

/-- The tables of Go's library that are read. -/
def Tabs (w : World) : Prop := Lib.Utf8Tabs 2 3 w ∧ Tz w
theorem Tabs.lt {w : World} (h : Tabs w) : 2 < w.heap.size ∧ 3 < w.heap.size ∧ 5 < w.heap.size := by
  refine ⟨cell_lt (h.1.1 0 (by omega)), cell_lt (h.1.2 0 (by omega)).1, cell_lt (h.2 0 (by decide))⟩
theorem Tabs.only' {S : List Nat} {w w' : World} (h : Tabs w) (ho : Only S w w') (hS : ∀ k, k ∈ S → k ≠ 2 ∧ k ≠ 3 ∧ k ≠ 5) : Tabs w' :=
  ⟨⟨fun c hc => cell_only (h.1.1 c hc) ho (fun hk => (hS _ hk).1 rfl), fun i hi => ⟨cell_only (h.1.2 i hi).1 ho (fun hk => (hS _ hk).2.1 rfl), cell_only (h.1.2 i hi).2 ho (fun hk => (hS _ hk).2.1 rfl)⟩⟩,
   fun j hj => cell_only (h.2 j hj) ho (fun hk => (hS _ hk).2.2 rfl)⟩
theorem Tabs.only {w w' : World} (h : Tabs w) (ho : Only [] w w') : Tabs w' := h.only' ho (by simp)
/-! ### utf8.DecodeRune -/
theorem decodeN_valid (n b0 b1 b2 b3 : Nat) (h0 : b0 < 256) : (Lib.decodeN n b0 b1 b2 b3).1 < 55296 ∨ (57343 < (Lib.decodeN n b0 b1 b2 b3).1 ∧ (Lib.decodeN n b0 b1 b2 b3).1 ≤ 1114111) := by
  unfold Lib.decodeN
  repeat' split
  all_goals simp only
  all_goals omega
theorem decodeRune_c {w : World} (hT : Tabs w) {B n : Nat} {A : Option Addr} {l : List UInt8} (hr : Reads w B A n (vbs l)) {x : UInt8} {r : List UInt8} (hx : l = x :: r) (c : Nat) :
    ∃ R K : Nat, 1 ≤ K ∧ (R < 55296 ∨ (57343 < R ∧ R ≤ 1114111)) ∧ (x.toNat < 128 → R = x.toNat ∧ K = 1) ∧ (128 ≤ x.toNat → 128 ≤ R) ∧
      Calls Tryd.prog 63 #[.slice A n c] w fun e w' => e = .returned (.tuple #[.int .i32 R, .int .i64 K]) ∧ Only [] w w' := by
  have hl : l.length = n := by have := hr.1; rwa [vbs_length] at this
  have hn : 0 < n := by rw [← hl, hx]; simp
  obtain ⟨g, o, rfl, hg, hc⟩ := hr.plain hn
  have hcell : ∀ j, (h : j < n) → w.cell? ⟨g, o + j, none⟩ = some (vb (l[j]'(by omega))) := fun j h => hc j _ (by rw [vbs_getElem?, List.getElem?_eq_getElem (by omega)]; rfl)
  have h0 : w.cell? ⟨g, o, none⟩ = some (.int .u8 x.toNat) := by
    have := hcell 0 hn
    simp only [Nat.add_zero] at this
    rw [this]
    subst hx
    rfl
  by_cases ha : x.toNat < 128
  · refine ⟨x.toNat, 1, by omega, by omega, (fun _ => ⟨rfl, rfl⟩), (fun h => by omega), ?_⟩
    refine Calls.mono (Any7.utf8_DecodeRune_ascii Tryd.laysDR n g o c x.toNat w (by omega) h0 (by omega)) ?_
    rintro e w' ⟨rfl, rfl⟩
    exact ⟨rfl, Only.refl _ _⟩
  · have hsz : (⟨l.toArray⟩ : ByteArray).size = n := by rw [← hl]; rfl
    have hget : ∀ j, (h : j < n) → (⟨l.toArray⟩ : ByteArray).get! j = l[j]'(by omega) := by
      intro j h
      show (l.toArray)[j]! = _
      rw [getElem!_pos l.toArray j (by simp; omega)]
      simp
    have hd := Any7.utf8_DecodeRune Tryd.laysDR ⟨l.toArray⟩ g o c w hT.1 (fun j hj => by
      rw [hsz] at hj
      rw [hget j hj]
      exact hcell j hj)
    have hgo : Lib.decodeGo ⟨l.toArray⟩ = Utf8.decode ⟨l.toArray⟩ 0 := by
      unfold Lib.decodeGo
      rw [if_neg (by rw [hsz]; omega)]
    have hxx : (⟨l.toArray⟩ : ByteArray)[0]'(by rw [hsz]; exact hn) = x := by
      subst hx; rfl
    obtain ⟨d1, d2⟩ := decode_high ⟨l.toArray⟩ 0 (by rw [hsz]; exact hn) (by rw [hxx]; omega)
    have d3 : (Utf8.decode ⟨l.toArray⟩ 0).1 < 55296 ∨ (57343 < (Utf8.decode ⟨l.toArray⟩ 0).1 ∧ (Utf8.decode ⟨l.toArray⟩ 0).1 ≤ 1114111) := by
      rw [Lib.decode_at]
      exact decodeN_valid _ _ _ _ _ (UInt8.toNat_lt _)
    rw [hgo, hsz] at hd
    refine ⟨(Utf8.decode ⟨l.toArray⟩ 0).1, (Utf8.decode ⟨l.toArray⟩ 0).2, d2, d3, (fun h => absurd h ha), (fun _ => d1), ?_⟩
    refine Calls.mono hd ?_
    rintro e w' ⟨rfl, hb⟩
    exact ⟨rfl, Only.of_below hb (fun k hk _ => hk)⟩
end Go.Proofs.YtfchkaoifbcgkaaDoor
