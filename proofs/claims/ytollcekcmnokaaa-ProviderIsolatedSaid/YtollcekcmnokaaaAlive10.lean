/-
  Contract: the laws' alive.
-/
import Derived.Test.YtollcekcmnokaaaGet10C
import Derived.Test.YtollcekcmnokaaaRef10
import Derived.Test.YtollcekcmnokaaaLarge10
namespace Go.Proofs.Ytollcekcmnokaaa
open Go.RowKit Go.BigFrame
set_option linter.unusedVariables false
set_option linter.unusedSimpArgs false

/-- A map with fields that lie in a row. -/
theorem mapT_in {w : World} {Q : Nat → Prop} {F : Option Addr} {d : Nat} {ks : List ByteArray} {vs : List VT} (hl : ks.length = vs.length) (hby : vs.length * 104 ≤ 140737488351232) (h : KRow w 49 7 fF F d (ks.zip vs)) (hx : ∀ x, x ∈ vs → x.In w Q) (hks : ∀ key, key ∈ ks → key.size ≤ 140737488351232) (hq : ∀ k, k ∈ rowT F → Q k) :
    (mapT F d ks vs).In w Q := by
  have hzl : (ks.zip vs).length = vs.length := by rw [List.length_zip]; omega
  have hle := h.le
  rw [hzl] at hle
  refine .mk _ (of_decide_eq_true rfl) (of_decide_eq_true rfl) (of_decide_eq_true rfl) (of_decide_eq_true rfl) ⟨hle, h.max, ?_⟩ hl (fun h => absurd h (Nat.lt_irrefl 0)) (fun h0 => ?_) (by intro x hx; cases hx) hx (fun k hk => by show k.size ≤ reachBytes; unfold reachBytes; exact hks k hk)
  · show vs.length * 104 ≤ reachBytes; unfold reachBytes; exact hby
  · have h0' : 0 < vs.length := h0
    obtain ⟨g, o, hA, hg⟩ := KRow.addr h (by omega)
    refine ⟨g, o, hA, hq g (by rw [hA]; simp [rowT]), fun i x key hk hx => ?_⟩
    have hk' : ks[i]? = some key := hk
    have hx' : vs[i]? = some x := hx
    have hz : (ks.zip vs)[i]? = some (key, x) := by rw [List.getElem?_zip_eq_some]; exact ⟨hk', hx'⟩
    obtain ⟨g', o', hA', _, hcell⟩ := KRow.at_ h fF_len hz (by decide)
    rw [hA] at hA'
    injection hA' with hA'
    injection hA' with e1 e2
    subst e1 e2
    exact ⟨hcell 0 _ rfl, hcell 1 _ rfl, hcell 2 _ rfl, hcell 3 _ rfl, hcell 4 _ rfl, hcell 5 _ rfl, hcell 6 _ rfl⟩
/-- What Get gives, its answer named. -/
def GetN (t : VT) (fail : List ByteArray) (r : Nat) (ps : List ByteArray) (pv : PV) (c : Int) (T : List Nat) (w : World) (e : Ending) (w' : World) : Prop :=
  ∃ (v : VT) (T' : List Nat), e = .returned (.tuple #[.agg #[.int .i64 v.k, .string v.s, .int .i64 v.n, .bool v.b, .slice v.A v.xs.length v.c, .slice v.F v.vs.length v.d], .int .i64 c]) ∧ v.plain = pv ∧
    Pr t fail r ps w' T' ∧ (∀ k, k ∈ T' → k ∈ T ∨ w.heap.size ≤ k) ∧ Only T w w' ∧ v.In w' (fun g => w.heap.size ≤ g ∧ g < w'.heap.size ∧ g ∉ T')
theorem GetR.named {t : VT} {fail : List ByteArray} {r : Nat} {ps ps' : List ByteArray} {name : ByteArray} {pv : PV} {c : Int} {T : List Nat} {w : World} {e : Ending} {w' : World} (h : GetR t fail r ps name T w e w') (hg : getA t fail name = (pv, c)) (hq : pullA ps name = ps') : GetN t fail r ps' pv c T w e w' := by
  obtain ⟨v, T', h1, h2, h3, h4⟩ := h
  rw [hg] at h1 h2
  rw [hq] at h3
  exact ⟨v, T', h1, h2, h3, h4⟩

def sA : ByteArray := ⟨#[97]⟩
def sB : ByteArray := ⟨#[98]⟩
def sC : ByteArray := ⟨#[99]⟩
theorem name_a : nameB sA = true := by decide
theorem name_b : nameB sB = true := by decide
theorem name_c : nameB sC = true := by decide
theorem ne_bc : sC ≠ sB := by decide
theorem ne_ac : sA ≠ sC := by decide
theorem hasB_one (a b : ByteArray) : hasB [a] b = decide (a = b) := by unfold hasB; simp
/-- The example's fields. -/
theorem ex_newE (F : Option Addr) (d : Nat) {w : World} {Q : Nat → Prop} (hI : (mapT F d [sA] [VT.zero]).In w Q) : newE (mapT F d [sA] [VT.zero]) [sB] = 0 := by
  refine newE_ok ((chk_zero (SizeOf.sizeOf (mapT F d [sA] [VT.zero]) + 1) (mapT F d [sA] [VT.zero]) 1 w Q (Nat.lt_succ_self _) hI).2 ?_) (by simp [name_b])
  rw [VT.plain_eq, PV.ok, PV.okL_iff, PV.okL_iff]
  refine ⟨by decide, ⟨by show (0 : Int) ≤ 4; decide, by show (4 : Int) ≤ 4; decide⟩, fun _ => rfl, fun _ => rfl, fun _ => rfl, fun _ => rfl, fun h => absurd rfl h, rfl, ?_, ?_, ?_, ?_⟩
  · show [sA].Nodup; simp
  · intro key hk
    have : key ∈ [sA] := hk
    simp at this
    subst this
    exact name_a
  · intro x hx; cases hx
  · intro x hx
    have : x ∈ [VT.zero.plain] := hx
    simp at this
    subst this
    rw [VT.plain_eq, PV.ok, PV.okL_iff, PV.okL_iff]
    exact ⟨by decide, ⟨by show (0 : Int) ≤ 0; decide, by show (0 : Int) ≤ 4; decide⟩, fun h => absurd rfl h, fun _ => rfl, fun _ => rfl, fun _ => rfl, fun _ => rfl, rfl, List.nodup_nil, (by intro key hk; cases hk), (by intro x hx; cases hx), (by intro x hx; cases hx)⟩
theorem ex_b (F : Option Addr) (d : Nat) : getA (mapT F d [sA] [VT.zero]) [sB] sB = (VT.zero.plain, 20) := by
  unfold getA ansT
  rw [name_b, hasB_one]
  simp
theorem ex_c (F : Option Addr) (d : Nat) : getA (mapT F d [sA] [VT.zero]) [sB] sC = (VT.zero.plain, 17) := by
  have hf : (mapT F d [sA] [VT.zero]).findI sC = none := VT.findI_none (fun i hi => by
    have hi0 : i = 0 := by have : i < 1 := hi; omega
    subst hi0
    exact ne_ac)
  unfold getA ansT
  rw [name_c, hasB_one, hf, decide_eq_false (fun e => ne_bc e.symm)]
  rfl
theorem ex_p1 : pullA [] sB = [sB] := by unfold pullA; rw [name_b]; rfl
theorem ex_p2 : pullA [sB] sC = [sB, sC] := by unfold pullA; rw [name_c, hasB_one, decide_eq_false (fun e => ne_bc e.symm)]; rfl
theorem ex_p3 : pullA [sB, sC] sB = [sB, sC] := by
  unfold pullA
  rw [name_b, (hasB_iff (l := [sB, sC]) (nm := sB)).2 (by simp)]
  rfl
end Go.Proofs.Ytollcekcmnokaaa
