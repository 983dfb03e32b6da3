/-
  Contract: the reference's Get.
-/
import Derived.Test.YtollcekcmnokaaaRef10B
namespace Go.Proofs.Ytollcekcmnokaaa
open Go.RowKit Go.BigFrame
set_option linter.unusedVariables false
set_option linter.unusedSimpArgs false

/-- What the reference's Get gives (the map with the fields: ks, vs). -/
def RfGetR (F0 : Option Addr) (d0 : Nat) (ks : List ByteArray) (vs : List VT) (fail : List ByteArray) (r : Nat) (ps : List ByteArray) (lo : Nat) (name : ByteArray) (T : List Nat) (w : World) (e : Ending) (w' : World) : Prop :=
  ∃ (v : VT) (T' : List Nat), e = .returned (.tuple #[.agg #[.int .i64 v.k, .string v.s, .int .i64 v.n, .bool v.b, .slice v.A v.xs.length v.c, .slice v.F v.vs.length v.d], .int .i64 (getA (mapT F0 d0 ks vs) fail name).2]) ∧ v.plain = (getA (mapT F0 d0 ks vs) fail name).1 ∧
    Rf ks vs fail r (pullA ps name) lo w' T' ∧ (∀ k, k ∈ T' → k ∈ T ∨ w.heap.size ≤ k) ∧ Only T w w' ∧ v.In w' (· < lo)
/-- The map with these fields, in a world. -/
theorem RfAt.in_ {ks : List ByteArray} {vs : List VT} {fail ps : List ByteArray} {r : Nat} {F : Option Addr} {fd : Nat} {L : Option Addr} {lc : Nat} {A : Option Addr} {c lo : Nat} {w : World} (h : RfAt ks vs fail ps r F fd L lc A c lo w) : (mapT F fd ks vs).In w (· < w.heap.size) := by
  have htop := h.top
  have hzl : (ks.zip vs).length = vs.length := by rw [List.length_zip]; have := h.len; omega
  have hle := h.fr.le
  rw [hzl] at hle
  refine .mk _ (of_decide_eq_true rfl) (of_decide_eq_true rfl) (of_decide_eq_true rfl) (of_decide_eq_true rfl) ⟨hle, h.fr.max, ?_⟩ h.len (fun h => absurd h (Nat.lt_irrefl 0)) (fun h0 => ?_) (by intro x hx; cases hx) (fun x hx => (h.trees x hx).same (fun g hg => by omega) (fun _ _ _ => rfl)) (fun k hk => by show k.size ≤ reachBytes; unfold reachBytes; exact h.keys k hk)
  · show vs.length * 104 ≤ reachBytes; unfold reachBytes; exact h.bytes
  · have h0' : 0 < vs.length := h0
    obtain ⟨g, o, hA, hg⟩ := KRow.addr h.fr (by omega)
    refine ⟨g, o, hA, hg, fun i x key hk hx => ?_⟩
    have hk' : ks[i]? = some key := hk
    have hx' : vs[i]? = some x := hx
    have hz : (ks.zip vs)[i]? = some (key, x) := by rw [List.getElem?_zip_eq_some]; exact ⟨hk', hx'⟩
    obtain ⟨g', o', hA', _, hcell⟩ := KRow.at_ h.fr fF_len hz (by decide)
    rw [hA] at hA'
    injection hA' with hA'
    injection hA' with e1 e2
    subst e1 e2
    exact ⟨hcell 0 _ rfl, hcell 1 _ rfl, hcell 2 _ rfl, hcell 3 _ rfl, hcell 4 _ rfl, hcell 5 _ rfl, hcell 6 _ rfl⟩
/-- What looking up a field says of the answer. -/
theorem ans_fld {F F0 : Option Addr} {d d0 : Nat} {ks : List ByteArray} {vs : List VT} {fail : List ByteArray} {nm : ByteArray} (hf : hasB fail nm = false) :
    (∃ u, (mapT F d ks vs).fld nm = .ok u ∧ u ∈ vs ∧ ansT (mapT F0 d0 ks vs) fail nm = (u.plain, 0)) ∨ ((mapT F d ks vs).fld nm = .error 17 ∧ ansT (mapT F0 d0 ks vs) fail nm = (VT.zero.plain, 17)) := by
  have e : (mapT F0 d0 ks vs).findI nm = (mapT F d ks vs).findI nm := rfl
  unfold ansT
  rw [hf, e]
  cases h : (mapT F d ks vs).findI nm with
  | none => exact .inr ⟨fld_miss rfl h, rfl⟩
  | some i =>
    have hi : i < vs.length := by
      unfold VT.findI at h
      have := List.mem_of_find?_eq_some h
      exact (by simpa using this : i < (mapT F d ks vs).vs.length)
    refine .inl ⟨_, fld_hit rfl h, VT.value_mem (t := mapT F d ks vs) hi, ?_⟩
    have hv : (mapT F0 d0 ks vs).value i = (mapT F d ks vs).value i := by
      have h1 := VT.value_at (t := mapT F0 d0 ks vs) hi
      have h2 := VT.value_at (t := mapT F d ks vs) hi
      exact Option.some.inj (h1.symm.trans h2)
    show ((VT.value (mapT F0 d0 ks vs) i).plain, (0 : Int)) = _
    rw [hv]
theorem RfAt.bel {ks : List ByteArray} {vs : List VT} {fail ps : List ByteArray} {r : Nat} {F : Option Addr} {fd : Nat} {L : Option Addr} {lc : Nat} {A : Option Addr} {c lo : Nat} {w w' : World} (h : RfAt ks vs fail ps r F fd L lc A c lo w) (hb : Bel w w') : RfAt ks vs fail ps r F fd L lc A c lo w' := h.only (bel_only hb) (by simp) (by simp)
/-- The end: what failing or looking up gives, from a world in which the name is pulled. -/
theorem getA_name {t : VT} {fail : List ByteArray} {nm : ByteArray} (h : nameB nm = true) : getA t fail nm = ansT t fail nm := by unfold getA; rw [h]; rfl
theorem ansT_fail {t : VT} {fail : List ByteArray} {nm : ByteArray} (h : hasB fail nm = true) : ansT t fail nm = (VT.zero.plain, 20) := by unfold ansT; rw [h]; rfl
/-- The name is appended. -/
theorem RfAt.pulled {ks : List ByteArray} {vs : List VT} {fail ps : List ByteArray} {r : Nat} {F : Option Addr} {fd : Nat} {L : Option Addr} {lc : Nat} {A A3 : Option Addr} {c c3 lo : Nat} {w w3 : World} {name : ByteArray} (h : RfAt ks vs fail ps r F fd L lc A c lo w) (hb : Bel w w3)
    (hR : KRow w3 9 1 fS A3 c3 (ps ++ [name])) (hK : ∀ k, k ∈ rowT A3 → w.heap.size ≤ k) : RfAt ks vs fail (ps ++ [name]) r F fd L lc A3 c3 lo (w3.setCell ⟨r, 2, none⟩ (.slice A3 (ps.length + 1) c3)) := by
  have h3 := h.bel hb
  have ho : Only [r] w3 (w3.setCell ⟨r, 2, none⟩ (.slice A3 (ps.length + 1) c3)) := (Only.refl [r] w3).setCell (.inl (by simp)) _
  have hr := h.head.lt
  have htop := h.top
  have hbase := h.base
  have hlen : (ps ++ [name]).length = ps.length + 1 := by simp
  have hne7 : r ∉ rowT F := fun hm => by
    obtain ⟨ad, e, he⟩ := mem_rowT.1 hm
    obtain ⟨g, o, cur, e2, hblk, _⟩ := RowK.some_ h.fr ad e
    subst e2
    have he' : g = r := he
    subst he'
    exact (Blk.ne_ hblk h.head (by decide)) rfl
  have hne1 : r ∉ rowT L := fun hm => by
    obtain ⟨ad, e, he⟩ := mem_rowT.1 hm
    obtain ⟨g, o, cur, e2, hblk, _⟩ := RowK.some_ h.lr ad e
    subst e2
    have he' : g = r := he
    subst he'
    exact (Blk.ne_ hblk h.head (by decide)) rfl
  refine ⟨?_, h.len, h.bytes, h3.fr.only ho (fun k hk hm => by simp at hm; subst hm; exact hne7 hk), h3.lr.only ho (fun k hk hm => by simp at hm; subst hm; exact hne1 hk), hR.only ho (fun k hk hm => by have := hK k hk; simp at hm; omega),
    fun x hx => (h3.trees x hx).only ho (fun g hg => ⟨by simp; omega, by have := hb.size; omega⟩) (fun g hg => hg), h.keys, Nat.le_trans htop (Nat.le_trans hb.size ho.size), hbase⟩
  rw [hlen]
  exact h3.head.set_ 2 _
end Go.Proofs.Ytollcekcmnokaaa
