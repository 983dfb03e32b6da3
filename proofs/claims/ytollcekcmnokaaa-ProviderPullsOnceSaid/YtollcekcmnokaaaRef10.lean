/-
  The reference's provider: as it lies in memory; contracts: has, New.
-/
import Derived.Test.YtollcekcmnokaaaNew10B
import Derived.Test.YtollcekcmnokaaaRefChk
namespace Go.Proofs.Ytollcekcmnokaaa
open Go.RowKit Go.BigFrame
set_option linter.unusedVariables false
set_option linter.unusedSimpArgs false

theorem has_no {l : List ByteArray} {k : Nat} {s nm : ByteArray} (h : hasB (l.take k) nm = false) (hk : l[k]? = some s) (hs : s ≠ nm) : hasB (l.take (k + 1)) nm = false := by
  rw [List.take_add_one, hk]
  show hasB (l.take k ++ [s]) nm = false
  rw [hasB_push, if_neg (fun e => hs e.symm), h]
theorem has_yes {l : List ByteArray} {k : Nat} {s nm : ByteArray} (hk : l[k]? = some s) (hs : s = nm) : hasB l nm = true := by
  subst hs
  exact hasB_iff.2 (List.mem_of_getElem? hk)
set_option maxHeartbeats 1000000 in
theorem has_c (A : Option Addr) (c : Nat) (l : List ByteArray) (nm : ByteArray) (w : World) (h : Strs w A l) (hn : l.length ≤ 4611686018427387904) :
    Calls Try.prog 24 #[.slice A l.length c, .string nm] w fun e w' => e = .returned (.bool (hasB l nm)) ∧ w = w' := by
  have HS := Lib.hid h
  clear h
  obtain ⟨n, hN⟩ : ∃ n, n = l.length := ⟨_, rfl⟩
  rw [← hN] at hn ⊢
  have HN := Lib.hid hN
  clear hN
  go_enter Try.func24, Try.ntmps24
  go_wp2_with fail
  go_loop [5] (fun v => ∃ k : Nat, k ≤ n ∧ v = .int .i64 k ∧ Hid (hasB (l.take k) nm = false)) (fun v => n - (intOf v).toNat)
  case atStart => exact ⟨0, Nat.zero_le _, rfl, Lib.hid rfl⟩
  case round =>
    obtain ⟨k, hk, rfl, HA⟩ := hrel
    by_cases hlt : k < n
    · have hkx : k < l.length := by have := HN.out; omega
      have hxk := List.getElem?_eq_getElem hkx
      generalize l[k] = s at hxk
      obtain ⟨g, o, hAA, hg, hc⟩ := HS.out.at_ hxk
      have HXK := Lib.hid hxk
      clear hxk
      subst hAA
      by_cases he : s = nm
      · have HR := Lib.hid (has_yes HXK.out he)
        have he2 : (s.toList == nm.toList) = true := by rw [toList_beq]; simpa using he
        clear he
        go_wp2_with fail
        go_ret
        exact ⟨by rw [HR.out]; rfl, rfl⟩
      · have HA2 := Lib.hid (has_no HA.out HXK.out he)
        have he2 : (s.toList == nm.toList) = false := by rw [toList_beq]; simpa using he
        clear he
        go_wp2_with fail
        go_round
        case rel => exact ⟨k + 1, by omega, by go_num, HA2⟩
        case measure => simp [intOf]; omega
    · obtain rfl : n = k := by omega
      have hr : hasB l nm = false := by have h1 := HA.out; rw [HN.out, List.take_length] at h1; exact h1
      have HR := Lib.hid hr
      clear hr
      go_wp2_with fail
      go_ret
      exact ⟨by rw [HR.out]; rfl, rfl⟩

/-- A row of strings, read. -/
theorem KRow.strs {w : World} {A : Option Addr} {c : Nat} {l : List ByteArray} (h : KRow w 9 1 fS A c l) : Strs w A l := by
  by_cases h0 : l = []
  · exact .inl h0
  · have hl : 0 < l.length := List.length_pos_iff.2 h0
    obtain ⟨g, o, rfl, hg, _⟩ := h.at_ fS_len (List.getElem?_eq_getElem hl) (by omega)
    refine .inr ⟨g, o, rfl, hg, fun i hi => ?_⟩
    obtain ⟨g', o', e, _, hc⟩ := h.at_ fS_len (List.getElem?_eq_getElem hi) (by omega)
    injection e with e
    injection e with e1 e2
    subst e1 e2
    have := hc 0 _ rfl
    rw [List.getD_eq_getElem?_getD, List.getElem?_eq_getElem hi]
    simpa using this
theorem Strs.src {w : World} {A : Option Addr} {l : List ByteArray} (h : Strs w A l) : Src w 1 fS A l := fun hl => by
  rcases h with h | ⟨g, o, rfl, _, hc⟩
  · subst h; cases hl
  · refine ⟨_, rfl, fun j u hu => ?_⟩
    have hj : j < l.length := by have := (List.getElem?_eq_some_iff.1 hu).1; rw [flat_length fS_len] at this; omega
    have hf := flat_at fS_len (List.getElem?_eq_getElem hj) (show 0 < 1 by omega)
    rw [show j * 1 + 0 = j by omega, hu] at hf
    rw [add_at, hc j hj, List.getD_eq_getElem?_getD, List.getElem?_eq_getElem hj]
    injection hf with hf
    rw [hf]
    rfl

/-- The reference's provider at block r. -/
structure RfAt (ks : List ByteArray) (vs : List VT) (fail ps : List ByteArray) (r : Nat) (F : Option Addr) (fd : Nat) (L : Option Addr) (lc : Nat) (A : Option Addr) (c lo : Nat) (w : World) : Prop where
  head : Blk w r 44 [.slice F vs.length fd, .slice L fail.length lc, .slice A ps.length c]
  len : ks.length = vs.length
  bytes : vs.length * 104 ≤ 140737488351232
  fr : KRow w 49 7 fF F fd (ks.zip vs)
  lr : KRow w 9 1 fS L lc fail
  pr : KRow w 9 1 fS A c ps
  trees : ∀ x, x ∈ vs → x.In w (· < lo)
  keys : ∀ key, key ∈ ks → key.size ≤ 140737488351232
  top : lo ≤ w.heap.size
  base : lo ≤ r
def Rf (ks : List ByteArray) (vs : List VT) (fail : List ByteArray) (r : Nat) (ps : List ByteArray) (lo : Nat) (w : World) (T : List Nat) : Prop :=
  ∃ F fd L lc A c, RfAt ks vs fail ps r F fd L lc A c lo w ∧ T = r :: (rowT F ++ rowT L ++ rowT A)
theorem RfAt.only {ks : List ByteArray} {vs : List VT} {fail ps : List ByteArray} {r : Nat} {F : Option Addr} {fd : Nat} {L : Option Addr} {lc : Nat} {A : Option Addr} {c lo : Nat} {w w' : World} {S : List Nat} (h : RfAt ks vs fail ps r F fd L lc A c lo w) (ho : Only S w w')
    (hS : ∀ k, k ∈ r :: (rowT F ++ rowT L ++ rowT A) → k ∉ S) (hlo : ∀ k, k ∈ S → lo ≤ k) : RfAt ks vs fail ps r F fd L lc A c lo w' := by
  have htop := h.top
  refine ⟨h.head.only ho (hS r (by simp)), h.len, h.bytes, h.fr.only ho (fun k hk => hS k (by simp [hk])), h.lr.only ho (fun k hk => hS k (by simp [hk])), h.pr.only ho (fun k hk => hS k (by simp [hk])),
    fun x hx => (h.trees x hx).only ho (fun g hg => ⟨fun hm => by have := hlo g hm; omega, by omega⟩) (fun g hg => hg), h.keys, Nat.le_trans htop ho.size, h.base⟩
theorem Rf.only {ks : List ByteArray} {vs : List VT} {fail ps : List ByteArray} {r lo : Nat} {w w' : World} {T S : List Nat} (h : Rf ks vs fail r ps lo w T) (ho : Only S w w') (hS : ∀ k, k ∈ T → k ∉ S) (hlo : ∀ k, k ∈ S → lo ≤ k) : Rf ks vs fail r ps lo w' T := by
  obtain ⟨F, fd, L, lc, A, c, h, rfl⟩ := h
  exact ⟨F, fd, L, lc, A, c, h.only ho hS hlo, rfl⟩
theorem Rf.bel {ks : List ByteArray} {vs : List VT} {fail ps : List ByteArray} {r lo : Nat} {w w' : World} {T : List Nat} (h : Rf ks vs fail r ps lo w T) (hb : Bel w w') : Rf ks vs fail r ps lo w' T := h.only (bel_only hb) (by simp) (by simp)
theorem Rf.lt {ks : List ByteArray} {vs : List VT} {fail ps : List ByteArray} {r lo : Nat} {w : World} {T : List Nat} (h : Rf ks vs fail r ps lo w T) : ∀ k, k ∈ T → k < w.heap.size := by
  obtain ⟨F, fd, L, lc, A, c, h, rfl⟩ := h
  intro k hk
  simp only [List.mem_cons, List.mem_append] at hk
  rcases hk with rfl | (hk | hk) | hk
  · exact h.head.lt
  · exact h.fr.lt k hk
  · exact h.lr.lt k hk
  · exact h.pr.lt k hk
def RfNewR (ks : List ByteArray) (vs : List VT) (fail : List ByteArray) (E : Int) (lo : Nat) (w : World) (e : Ending) (w' : World) : Prop :=
  (E = 0 ∧ ∃ r T, e = .returned (.tuple #[.pointer (some ⟨r, 0, none⟩), .int .i64 0]) ∧ Bel w w' ∧ Rf ks vs fail r [] lo w' T ∧ ∀ k, k ∈ T → w.heap.size ≤ k) ∨
  (E ≠ 0 ∧ e = .returned (.tuple #[.pointer none, .int .i64 E]) ∧ Bel w w')
end Go.Proofs.Ytollcekcmnokaaa
