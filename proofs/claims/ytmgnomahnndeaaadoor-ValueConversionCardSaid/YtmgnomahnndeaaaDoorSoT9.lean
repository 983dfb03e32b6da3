/-
  Sorted's tree, out of its rows.
-/
import Derived.Test.YtmgnomahnndeaaaDoorToV9
namespace Go.Proofs.YtmgnomahnndeaaaDoor
open Go.RowKit Go.BigFrame
set_option linter.unusedVariables false
set_option linter.unusedSimpArgs false
theorem done2c {f : Func} (hf : f.results = #[.cell 2 34]) {tmps : Array Value} {g : Nat} {u : VT} {W : World} (hp : tmps.getD 2 undef = .pointer (some ⟨g, 0, none⟩))
    (hB : Blk W g 34 u.cs) : (results f tmps).run Tryd.prog W = .ok u.val W := by
  have hp' : tmps[2]?.getD undef = .pointer (some ⟨g, 0, none⟩) := by simpa using hp
  have hl := run_loadVar_row W g 34 u.cs.toArray (0, 0) _ (P := Tryd.prog) (ty := 34) hB Tryd.underlying34 rfl (by kernel_rfl)
  simp [results, hf, hp', asAddr, hl]
  rfl
theorem sorted_in {w W : World} {Q0 : Nat → Prop} {t : VT} (hI : t.In w Q0) {lo : Nat} {A AF : Option Addr} {c cF : Nat} {us : List VT} {fs : List (ByteArray × VT)} (hn : us.length = t.xs.length) (hnf : fs.length = t.vs.length)
    (hr : KRow W 34 6 VT.cs A c us) (hA : ∀ g, g ∈ rowT A → lo ≤ g) (hu : ∀ u, u ∈ us → u.In W (fun g => lo ≤ g ∧ g < W.heap.size))
    (hrf : KRow W 57 7 fF AF cF fs) (hAF : ∀ g, g ∈ rowT AF → lo ≤ g) (hv : ∀ u, u ∈ fs.map (·.2) → u.In W (fun g => lo ≤ g ∧ g < W.heap.size))
    (hkeys : ∀ key, key ∈ fs.map (·.1) → key ∈ t.ks) :
    (VT.mk t.k t.s t.n t.b A c us AF cF (fs.map (·.1)) (fs.map (·.2))).In W (fun g => lo ≤ g ∧ g < W.heap.size) := by
  cases hI with | mk _ hk hnn hs hc hd hkl _ _ _ _ hks =>
  refine .mk _ hk hnn hs ⟨hr.le, hr.max, ?_⟩ ⟨?_, hrf.max, ?_⟩ ?_ (fun h0 => ?_) (fun h0 => ?_) hu hv (fun key hkey => hks key (hkeys key hkey))
  · show us.length * 88 ≤ reachBytes; rw [hn]; exact hc.2.2
  · show (fs.map (·.2)).length ≤ cF; rw [List.length_map]; exact hrf.le
  · show (fs.map (·.2)).length * 104 ≤ reachBytes; rw [List.length_map, hnf]; exact hd.2.2
  · show (fs.map (·.1)).length = (fs.map (·.2)).length; rw [List.length_map, List.length_map]
  · have h0' : 0 < us.length := h0
    obtain ⟨g, o, hAA, hg⟩ := KRow.addr hr (by have := hr.le; omega)
    refine ⟨g, o, hAA, ⟨hA g (by rw [hAA, rowT_some]; simp), hg⟩, fun i x hx => ?_⟩
    obtain ⟨g', o', hA', _, hcell⟩ := KRow.at_ hr (fun _ => rfl) hx (by decide)
    rw [hAA] at hA'
    injection hA' with hA'
    injection hA' with e1 e2
    subst e1 e2
    exact ⟨hcell 0 _ rfl, hcell 1 _ rfl, hcell 2 _ rfl, hcell 3 _ rfl, hcell 4 _ rfl, hcell 5 _ rfl⟩
  · have h0' : 0 < (fs.map (·.2)).length := h0
    rw [List.length_map] at h0'
    obtain ⟨g, o, hAA, hg⟩ := KRow.addr hrf (by have := hrf.le; omega)
    refine ⟨g, o, hAA, ⟨hAF g (by rw [hAA, rowT_some]; simp), hg⟩, fun i x key hk hx => ?_⟩
    have hk' : (fs.map (·.1))[i]? = some key := hk
    have hx' : (fs.map (·.2))[i]? = some x := hx
    have hz : fs[i]? = some (key, x) := by
      rw [List.getElem?_map] at hk' hx'
      obtain ⟨p, hp, rfl⟩ := Option.map_eq_some_iff.1 hk'
      rw [hp] at hx'
      injection hx' with hx'
      rw [hp, ← hx']
    obtain ⟨g', o', hA', _, hcell⟩ := KRow.at_ hrf fF_len hz (by decide)
    rw [hAA] at hA'
    injection hA' with hA'
    injection hA' with e1 e2
    subst e1 e2
    exact ⟨hcell 0 _ rfl, hcell 1 _ rfl, hcell 2 _ rfl, hcell 3 _ rfl, hcell 4 _ rfl, hcell 5 _ rfl, hcell 6 _ rfl⟩
theorem sorted_fields {t : VT} {fs : List (ByteArray × VT)} (hkl : t.ks.length = t.vs.length) (hnd : t.ks.Nodup)
    (hp : (fs.map fun p => (p.1, p.2.plain)).Perm (t.ks.zip (t.vs.map fun x => x.plain.sort))) (hw : fs.Pairwise fun p q => kL p.1 ≤ kL q.1) :
    (fs.map fun p => (p.1, p.2.plain)) = sortF (t.ks.zip (t.vs.map fun x => x.plain.sort)) := by
  refine sortF_of hp ?_ ?_
  · rw [zip_fst (by rw [List.length_map]; exact hkl)]; exact hnd
  · rw [List.pairwise_map]
    exact hw.imp fun h => by simpa [leF] using h
theorem sorted_plain {t : VT} {A AF : Option Addr} {c cF : Nat} {us : List VT} {fs : List (ByteArray × VT)} (hn : us.length = t.xs.length) (hpl : ∀ (i : Nat) (u : VT), us[i]? = some u → some u.plain = (t.xs[i]?).map fun t => t.plain.sort)
    (hf : (fs.map fun p => (p.1, p.2.plain)) = sortF (t.ks.zip (t.vs.map fun x => x.plain.sort))) :
    (VT.mk t.k t.s t.n t.b A c us AF cF (fs.map (·.1)) (fs.map (·.2))).plain = t.plain.sort := by
  have e1 : us.map VT.plain = t.xs.map fun x => x.plain.sort := by
    apply List.ext_getElem?
    intro i
    rw [List.getElem?_map, List.getElem?_map]
    cases h : us[i]? with
    | none =>
      rw [List.getElem?_eq_none_iff] at h
      rw [List.getElem?_eq_none_iff.2 (by omega)]
      rfl
    | some u => exact hpl i u h
  rw [sort_eq, VT.plain_eq, ← hf]
  simp only [VT.k, VT.s, VT.n, VT.b, VT.xs, VT.ks, VT.vs, e1, List.map_map]
  rfl
end Go.Proofs.YtmgnomahnndeaaaDoor
