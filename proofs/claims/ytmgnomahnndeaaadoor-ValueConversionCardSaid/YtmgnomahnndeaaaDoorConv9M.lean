/-
  Contract: convertMap.
-/
import Derived.Test.YtmgnomahnndeaaaDoorConv9L
import Derived.Test.YtmgnomahnndeaaaDoorConv9P
import Derived.Test.YtmgnomahnndeaaaDoorKRow
namespace Go
open Go.Maps (Keyed)
/-- 'm[k]' (without 'ok') of a map whose elements read as themselves. -/
theorem wpList_lookup_own_held {P : Program} (w : World) {ops : Array Oper} {rest : List Oper} {o : Oper} {a : Act} {Q : Exit → Act → World → Prop}
    (hg : o.guard = none) (m x : Operand) (t : TypeId) (hop : o.op = Op.lookup t m x false)
    (k e : TypeId) (K : Keyed P k) (ht : P.underlying t = some (.map k e)) (z : Value) (hz : (zeroValue e).run P w = .ok z w) (b n : Nat) (D : DataW Value)
    (hm : a.eval m = .map (some b)) (hown : w.ownsMap P k Go.Proofs.YtmgnomahnndeaaaDoor.AT.RV b n D) (key : Value) (kl : Lit) (hx : a.eval x = key) (hkey : keyOf P k key = some kl)
    (v : Value) (hv : ∀ zd, D.atKey kl zd = .held v) (hK : wpList P ops Q rest (a.put o.dst v) w) :
    wpList P ops Q (o :: rest) a w := by
  refine wpList_plain hg fun K' hK' => ?_
  obtain ⟨v', ps, hrun, hv'⟩ := hown.lookup K ht hz (zd := .held z) (zp := []) rfl hkey
  rw [hv] at hv'
  have e : v' = v := by
    unfold Go.Proofs.YtmgnomahnndeaaaDoor.AT.RV at hv'
    injection hv' with hv'
    injection hv' with h1 h2
    injection h1
  subst e
  unfold Oper.wp
  simp [execOp, hop, hm, hx, hrun, Result.andThen]
  exact hK' _ _ hK
end Go
namespace Go.Proofs.YtmgnomahnndeaaaDoor
open Go.RowKit Go.BigFrame Go.Maps Go.WideMaps
set_option linter.unusedVariables false
set_option linter.unusedSimpArgs false

theorem zeroAny (w : World) : (zeroValue 20).run Tryd.prog w = .ok .nilIface w := by kernel_rfl
/-- A field's cells. -/
def fF (p : ByteArray × VT) : List Value := fcs p.1 p.2
theorem fF_len (p : ByteArray × VT) : (fF p).length = 7 := rfl
theorem fF_one (p : ByteArray × VT) (u : Value) (h : u ∈ fF p) : u.oneCell' = true := by
  simp only [fF, fcs, List.mem_cons, List.not_mem_nil, or_false] at h
  rcases h with rfl | rfl | rfl | rfl | rfl | rfl | rfl <;> rfl
/-- A map's tree out of its fields. -/
theorem fields_tree {w : World} {A : Option Addr} {c lo : Nat} {ks : List ByteArray} {us : List VT} (hl : ks.length = us.length) (h : KRow w 57 7 fF A c (ks.zip us)) (hc : us.length * 104 ≤ 140737488351232)
    (hlo : ∀ g, g ∈ rowT A → lo ≤ g) (hus : ∀ u, u ∈ us → u.In w (fun g => lo ≤ g ∧ g < w.heap.size)) (hks : ∀ k, k ∈ ks → k.size ≤ 140737488351232) :
    (VT.mk 4 ByteArray.empty 0 false none 0 [] A c ks us).In w (fun g => lo ≤ g ∧ g < w.heap.size) := by
  have hzl : (ks.zip us).length = us.length := by rw [List.length_zip]; omega
  refine .mk _ (of_decide_eq_true rfl) (of_decide_eq_true rfl) (of_decide_eq_true rfl) (of_decide_eq_true rfl) ⟨?_, h.max, ?_⟩ hl (fun h => absurd h (Nat.lt_irrefl 0)) (fun h0 => ?_) (by intro x hx; cases hx) hus (fun k hk => by show k.size ≤ reachBytes; unfold reachBytes; exact hks k hk)
  · have := h.le; rw [hzl] at this; exact this
  · show us.length * 104 ≤ reachBytes; unfold reachBytes; exact hc
  · have h0' : 0 < us.length := h0
    obtain ⟨g, o, hA, hg⟩ := KRow.addr h (by have := h.le; omega)
    refine ⟨g, o, hA, ⟨hlo g (by rw [hA, rowT_some]; simp), hg⟩, fun i x key hk hx => ?_⟩
    have hk' : ks[i]? = some key := hk
    have hx' : us[i]? = some x := hx
    have hz : (ks.zip us)[i]? = some (key, x) := by rw [List.getElem?_zip_eq_some]; exact ⟨hk', hx'⟩
    obtain ⟨g', o', hA', _, hcell⟩ := KRow.at_ h fF_len hz (by decide)
    rw [hA] at hA'
    injection hA' with hA'
    injection hA' with e1 e2
    subst e1 e2
    exact ⟨hcell 0 _ rfl, hcell 1 _ rfl, hcell 2 _ rfl, hcell 3 _ rfl, hcell 4 _ rfl, hcell 5 _ rfl, hcell 6 _ rfl⟩
theorem plain_map (A : Option Addr) (c : Nat) (ks : List ByteArray) (us : List VT) : (VT.mk 4 ByteArray.empty 0 false none 0 [] A c ks us).plain = .mk 4 ByteArray.empty 0 false [] ks (us.map VT.plain) := by
  rw [VT.plain_eq]; rfl
theorem zip_push {K : List ByteArray} {us : List VT} {k : Nat} {key : ByteArray} {t : VT} (hk : K[k]? = some key) (hu : us.length = k) : (K.take (k + 1)).zip (us ++ [t]) = (K.take k).zip us ++ [(key, t)] := by
  have hkl := (List.getElem?_eq_some_iff.1 hk).1
  rw [List.take_add_one, hk]
  show (K.take k ++ [key]).zip (us ++ [t]) = _
  rw [List.zip_append (by rw [List.length_take]; omega)]
  rfl

theorem Strs.only {w w' : World} {A : Option Addr} {l : List ByteArray} {S : List Nat} (h : Strs w A l) (ho : Only S w w') (hS : ∀ k, k ∈ rowT A → k ∉ S) : Strs w' A l := by
  rcases h with h | ⟨g, o, rfl, hg, hi⟩
  · exact .inl h
  · exact .inr ⟨g, o, rfl, Nat.lt_of_lt_of_le hg ho.size, fun i hl => (only_cell ho hg (hS g (by rw [rowT_some]; simp))).trans (hi i hl)⟩
theorem cells_field : (Value.agg #[.string ByteArray.empty, .int .i64 0, .string ByteArray.empty, .int .i64 0, .bool false, .slice none 0 0, .slice none 0 0]).cells.size = 7 := by kernel_rfl
theorem src_new (w2 : World) (o1 : Obj) (key : ByteArray) (t : VT) : Src ((w2.alloc o1).alloc (.cells #[.string key, .int .i64 t.k, .string t.s, .int .i64 t.n, .bool t.b, .slice t.A t.xs.length t.c, .slice t.F t.vs.length t.d] 57)) 7 fF (some ⟨w2.heap.size + 1, 0, none⟩) [(key, t)] := by
  have h := src_blk (z := 7) (m := [(key, t)]) (Blk.new (w2.alloc o1) 57 (fcs key t)) (flat_one (f := fF) (key, t)).symm
  have e : (w2.alloc o1).heap.size = w2.heap.size + 1 := by simp
  rw [e] at h
  exact h
theorem map_facts {w wr w2 : World} {A' SA : Option Addr} {c' : Nat} {l : List (ByteArray × VT)} {us : List VT} {K : List ByteArray} {t : VT} (hb : Bel wr w2) (ht : t.In w2 (fun g => wr.heap.size ≤ g ∧ g < w2.heap.size)) (hw : w.heap.size < wr.heap.size)
    (hz : Blk wr w.heap.size 34 VT.zero.cs) (hrow : KRow wr 57 7 fF A' c' l) (hstr : Strs wr SA K) (hus : ∀ u, u ∈ us → u.In wr (fun g => w.heap.size < g ∧ g < wr.heap.size ∧ g ∉ rowT A')) (o1 o2 : Obj) :
    Blk (w2.alloc o1) w.heap.size 34 VT.zero.cs ∧ KRow ((w2.alloc o1).alloc o2) 57 7 fF A' c' l ∧ Blk ((w2.alloc o1).alloc o2) w.heap.size 34 VT.zero.cs ∧ Strs ((w2.alloc o1).alloc o2) SA K ∧
      (∀ u, u ∈ us ++ [t] → u.In ((w2.alloc o1).alloc o2) (fun g => w.heap.size < g ∧ g < ((w2.alloc o1).alloc o2).heap.size ∧ g ∉ rowT A')) := by
  have hb3 : Bel wr ((w2.alloc o1).alloc o2) := hb.trans ((Bel.alloc _ _).trans (Bel.alloc _ _))
  have hsz := hb3.size
  have hs2 : w2.heap.size ≤ ((w2.alloc o1).alloc o2).heap.size := ((Bel.alloc w2 o1).trans (Bel.alloc _ o2)).size
  refine ⟨hz.below (hb.trans (Bel.alloc _ _)) hz.lt, hrow.only (bel_only hb3) (by simp), hz.below hb3 hz.lt, hstr.only (bel_only hb3) (by simp), fun u hu => ?_⟩
  rcases List.mem_append.1 hu with hu | hu
  · exact (hus u hu).only (bel_only hb3) (fun g hg => ⟨by simp, hg.2.1⟩) (fun g hg => ⟨hg.1, Nat.lt_of_lt_of_le hg.2.1 hsz, hg.2.2⟩)
  · simp only [List.mem_singleton] at hu
    subst hu
    exact ht.only (bel_only ((Bel.alloc w2 o1).trans (Bel.alloc _ o2))) (fun g hg => ⟨by simp, hg.2⟩) (fun g hg => ⟨by have := hg.1; omega, Nat.lt_of_lt_of_le hg.2 hs2, fun hr => by have h1 := hrow.lt g hr; have h2 := hg.1; omega⟩)
theorem map_after {w W3 w3 : World} {A' A2 SA : Option Addr} {us : List VT} {K : List ByteArray} (hw : w.heap.size < W3.heap.size) (hbw : Bel w W3) (ho : Only (rowT A') W3 w3) (hk : ∀ k, k ∈ rowT A2 → k ∈ rowT A' ∨ k = W3.heap.size) (hr : ∀ g, g ∈ rowT A' → w.heap.size < g ∧ g ∉ rowT SA)
    (hz : Blk W3 w.heap.size 34 VT.zero.cs) (hstr : Strs W3 SA K) (hK : K ≠ []) (hus : ∀ u, u ∈ us → u.In W3 (fun g => w.heap.size < g ∧ g < W3.heap.size ∧ g ∉ rowT A')) :
    Bel w w3 ∧ Blk w3 w.heap.size 34 VT.zero.cs ∧ Strs w3 SA K ∧ (∀ g, g ∈ rowT A2 → w.heap.size < g ∧ g ∉ rowT SA) ∧ (∀ u, u ∈ us → u.In w3 (fun g => w.heap.size < g ∧ g < w3.heap.size ∧ g ∉ rowT A2)) := by
  refine ⟨bel_on hbw ho (fun k hk => Nat.le_of_lt (hr k hk).1), hz.only ho (fun h => by have := (hr _ h).1; omega), hstr.only ho (fun k h1 h2 => (hr k h2).2 h1), fun g hg => ?_, fun u hu => ?_⟩
  · rcases hk g hg with h | rfl
    · exact hr g h
    · refine ⟨hw, fun h => ?_⟩
      rcases hstr with h0 | ⟨g', o', rfl, hg', _⟩
      · exact hK h0
      · rw [rowT_some] at h
        simp at h
        omega
  · exact (hus u hu).only ho (fun g hg => ⟨hg.2.2, hg.2.1⟩) (fun g hg => ⟨hg.1, Nat.lt_of_lt_of_le hg.2.1 ho.size, fun h => by
      rcases hk g h with h | h
      · exact hg.2.2 h
      · have := hg.2.1; omega⟩)

set_option maxRecDepth 100000 in
set_option maxHeartbeats 3200000 in
theorem convertMap_c (B : Nat) (ks : List ByteArray) (vs : List AT) (d : Nat) (hd : d ≤ 65535) (w : World) (hI : (AT.map B ks vs).In w (· < w.heap.size))
    (hE : ∀ x, x ∈ vs → ∀ W, Bel w W → Calls Tryd.prog 60 #[x.val, .int .i64 (d + 1)] W (CvR x W)) :
    Calls Tryd.prog 52 #[.map (some B), .int .i64 d] w (CvR (.map B ks vs) w) := by
  obtain ⟨hBl, hl, hnd, hc, hm, hks⟩ : B < w.heap.size ∧ ks.length = vs.length ∧ ks.Nodup ∧ vs.length * 104 ≤ 140737488351232 ∧ AT.Holds w B ks vs ∧ ∀ k, k ∈ ks → k.size ≤ 140737488351232 := by
    cases hI with | map _ _ _ hB hl hn hc hm hks _ => exact ⟨hB, hl, hn, hc, hm, hks⟩
  obtain ⟨nm, D, hown, hper, hat⟩ := hm
  have hlen : Maps.size D = (sortK ks).length := by rw [size_strKeys, hper.length_eq, List.length_map, (sortK_perm ks).length_eq]
  have hKl : (sortK ks).length = vs.length := by rw [(sortK_perm ks).length_eq]; exact hl
  have HMEM : Hid (∀ (i : Nat) (k : ByteArray), (sortK ks)[i]? = some k → k.size ≤ 140737488351232 ∧ ∃ (j : Nat) (v : AT), ks[j]? = some k ∧ vs[j]? = some v ∧ v ∈ vs ∧ ∀ z, D.atKey (.string (kL k)) z = .held v.val) := Lib.hid (fun i k hk => by
    have hmem : k ∈ ks := mem_sortK.1 (List.mem_of_getElem? hk)
    obtain ⟨j, hj, rfl⟩ := List.getElem_of_mem hmem
    have hv := List.getElem?_eq_getElem (show j < vs.length by omega)
    exact ⟨hks _ hmem, j, vs[j]'(by omega), List.getElem?_eq_getElem hj, hv, List.getElem_mem _, hat j _ _ (List.getElem?_eq_getElem hj) hv⟩)
  have HSO : Hid (∀ W, Bel w W → Calls Tryd.prog 61 #[.func (.func 74) #[] #[.pointer (some ⟨W.heap.size, 0, none⟩)]] (W.alloc (.cells #[.map (some B)] 54)) fun e w' =>
      ∃ (A : Option Addr) (c : Nat), e = .returned (.slice A (sortK ks).length c) ∧ (sortK ks).length ≤ c ∧ c ≤ 9223372036854775807 ∧ Strs w' A (sortK ks) ∧ (∀ k, k ∈ rowT A → W.heap.size ≤ k) ∧ Bel (W.alloc (.cells #[.map (some B)] 54)) w') := Lib.hid (fun W hb => sorted_c B ks vs W (AT.Holds.bel ⟨nm, D, hown, hper, hat⟩ hb) (by omega))
  have HCS : Hid (∀ us : List VT, us.length = (sortK ks).length → (∀ (i : Nat) (u : VT), us[i]? = some u → ∃ (j : Nat) (v : AT), ks[j]? = (sortK ks)[i]? ∧ vs[j]? = some v ∧ v.conv = some u.plain) → (AT.map B ks vs).conv = some (.mk 4 ByteArray.empty 0 false [] (sortK ks) (us.map VT.plain))) :=
    Lib.hid (fun us h1 h2 => conv_map_some hnd hl h1 h2)
  have HE := Lib.hid hE
  have HOWN := Lib.hid hown
  obtain ⟨n, hn⟩ : ∃ n, n = (sortK ks).length := ⟨_, rfl⟩
  have hc104 : n * 104 ≤ 140737488351232 := by omega
  obtain ⟨L0, hL0, hmk⟩ := make_cells (t := 32) Tryd.underlying32 info_field 0 n (Nat.zero_le _) (by omega) (by omega)
  simp only [Int.natCast_zero] at hmk
  rw [← hn] at hlen
  have HLEN := Lib.hid hlen
  have HN := Lib.hid hn
  have HZ := Lib.hid ((Blk.new w 34 VT.zero.cs).alloc (.cells L0.toArray 57))
  have HM := Lib.hid (show KRow ((w.alloc (.cells VT.zero.cs.toArray 34)).alloc (.cells L0.toArray 57)) 57 7 fF (some ⟨w.heap.size + 1, 0, none⟩) n ([] : List (ByteArray × VT)) from by
    have h1 := Blk.new (w.alloc (.cells VT.zero.cs.toArray 34)) 57 L0
    have e : (w.alloc (.cells VT.zero.cs.toArray 34)).heap.size = w.heap.size + 1 := by simp
    rw [e] at h1
    exact KRow.of_room h1 n hL0 (by unfold maxLen; omega))
  have HW0 : Hid (Bel w ((w.alloc (.cells #[.int .i64 0, .string ByteArray.empty, .int .i64 0, .bool false, .slice none 0 0, .slice none 0 0] 34)).alloc (.cells L0.toArray 57))) := Lib.hid ((Bel.alloc _ _).trans (Bel.alloc _ _))
  have HSZ : Hid (((w.alloc (.cells #[.int .i64 0, .string ByteArray.empty, .int .i64 0, .bool false, .slice none 0 0, .slice none 0 0] 34)).alloc (.cells L0.toArray 57)).heap.size = w.heap.size + 2) := Lib.hid (by simp)
  have HS0 : Hid (Calls Tryd.prog 61 #[.func (.func 74) #[] #[.pointer (some ⟨w.heap.size + 1 + 1, 0, none⟩)]] (((w.alloc (.cells #[.int .i64 0, .string ByteArray.empty, .int .i64 0, .bool false, .slice none 0 0, .slice none 0 0] 34)).alloc (.cells L0.toArray 57)).alloc (.cells #[.map (some B)] 54)) _) := Lib.hid (by
    have h := HSO.out _ HW0.out
    have e : ((w.alloc (.cells #[.int .i64 0, .string ByteArray.empty, .int .i64 0, .bool false, .slice none 0 0, .slice none 0 0] 34)).alloc (.cells L0.toArray 57)).heap.size = w.heap.size + 1 + 1 := by simp
    rw [e] at h
    exact h)
  clear hI hE hown hper hat hks hnd hc hL0 hn hlen hKl hl HSO
  go_enter Tryd.func52, Tryd.ntmps52
  go_wp2_with (first | (at_len; refine wpList_len_own _ rfl _ 54 rfl 9 20 Tryd.underlying54 AT.RV B nm D rfl (ownsMap_bel HOWN.out (Bel.alloc _ _)) ?_; rw [HLEN.out]) | (go_at_call 62; refine (keys_c _ _).mono ?_; rintro e w1 ⟨rfl, rfl⟩) | (go_at_call 61; refine HS0.out.mono ?_; rintro e w1 ⟨SA, sc, rfl, hsc1, hsc2, hstr, hsa, hb⟩; have HSTR := Lib.hid hstr; have HSA := Lib.hid hsa; clear hsa; have HBS := Lib.hid ((Bel.alloc ((w.alloc (.cells #[.int .i64 0, .string ByteArray.empty, .int .i64 0, .bool false, .slice none 0 0, .slice none 0 0] 34)).alloc (.cells L0.toArray 57)) (.cells #[.map (some B)] 54)).trans hb); rw [← HN.out] at hsc1; rw [← HN.out]; clear hstr hb))
  have HSZ1 : Hid (w.heap.size + 2 ≤ w1.heap.size) := Lib.hid (by rw [← HSZ.out]; exact HBS.out.size)
  go_loopw [6, 18] (fun s6 s18 wr => ∃ (k : Nat) (us : List VT) (A' : Option Addr) (c' : Nat), k ≤ n ∧ s18 = .int .i64 k ∧ s6 = .slice A' k c' ∧ Hid (us.length = k) ∧ Hid (Bel w wr) ∧ Hid (w.heap.size < wr.heap.size) ∧ Hid (Blk wr w.heap.size 34 VT.zero.cs) ∧ Hid (KRow wr 57 7 fF A' c' (((sortK ks).take k).zip us)) ∧
      Hid (Strs wr SA (sortK ks)) ∧ Hid (∀ g, g ∈ rowT A' → w.heap.size < g ∧ g ∉ rowT SA) ∧ Hid (∀ u, u ∈ us → u.In wr (fun g => w.heap.size < g ∧ g < wr.heap.size ∧ g ∉ rowT A')) ∧
      Hid (∀ (i : Nat) (u : VT), us[i]? = some u → ∃ (j : Nat) (v : AT), ks[j]? = (sortK ks)[i]? ∧ vs[j]? = some v ∧ v.conv = some u.plain)) (fun _ s18 _ => n - (intOf s18).toNat)
  case atStart =>
    refine ⟨0, [], some ⟨w.heap.size + 1, 0, none⟩, n, Nat.zero_le _, rfl, rfl, Lib.hid rfl, Lib.hid (HW0.out.trans HBS.out), Lib.hid (by have := HSZ1.out; omega), Lib.hid (HZ.out.below HBS.out (by rw [HSZ.out]; omega)), Lib.hid (HM.out.only (bel_only HBS.out) (by simp)), HSTR, Lib.hid (fun g hg => ?_), Lib.hid (fun u hu => by cases hu), Lib.hid (fun i u hu => by simp at hu)⟩
    rw [rowT_some] at hg
    simp at hg
    subst hg
    refine ⟨by omega, fun h => ?_⟩
    have h1 := HSA.out _ h
    omega
  case round =>
    obtain ⟨k, us, A', c', hk, rfl, rfl, HUL, HB, HSW, HZR, HROW, HSTRR, HRT, HUS, HCV⟩ := hrel
    by_cases hlt : k < n
    · have hkK : k < (sortK ks).length := by have := HN.out; omega
      have hKk := List.getElem?_eq_getElem hkK
      obtain ⟨hksz, j, v, hj, hvj, hvm, hat⟩ := HMEM.out k _ hKk
      rcases HSTRR.out with h0 | ⟨gs, os, hSA, hgs, hi⟩
      · rw [h0] at hkK; simp at hkK
      have c0 := hi k hkK
      rw [List.getD_eq_getElem?_getD, hKk, Option.getD_some] at c0
      have HNE : Hid (sortK ks ≠ []) := Lib.hid (fun h => by rw [h] at hkK; simp at hkK)
      have HKK := Lib.hid hKk
      have HKEY : Hid (keyOf Tryd.prog 9 (.string (sortK ks)[k]) = some (.string (sortK ks)[k].data.toList)) := Lib.hid (keyOf_string_mk Tryd.underlying9 (by unfold maxLen; omega))
      have HAT := Lib.hid hat
      have HJ := Lib.hid (And.intro hj hvj)
      have HCALL := Lib.hid (HE.out v hvm wr HB.out)
      rw [hSA]
      have HSAE := Lib.hid hSA
      have HZL : Hid ((((sortK ks).take k).zip us).length = k) := Lib.hid (by rw [List.length_zip, List.length_take, HUL.out]; omega)
      have HMX : Hid (k + 1 ≤ maxLen) := Lib.hid (by unfold maxLen; omega)
      have HBY : Hid ((k + 1) * 104 ≤ 140737488355328) := Lib.hid (by omega)
      clear hi hKk hj hvj hvm hat hksz hSA
      generalize (sortK ks)[k] = key at *
      generalize hvv : v.val = vv at HCALL HAT
      clear hvv
      go_wp2_with (first | (at_lookup; refine wpList_lookup_own_held _ rfl _ _ 54 rfl 9 20 keyLaw Tryd.underlying54 .nilIface (zeroAny _) B nm D rfl (ownsMap_bel HOWN.out HB.out) _ _ rfl HKEY.out vv HAT.out ?_) | (go_at_call 60; refine HCALL.out.mono ?_; rintro e w2 ⟨t, b, rfl, hb, ht, hcase⟩; obtain ⟨hz, hrow3, hz3, hstr3, hus3⟩ := map_facts hb ht HSW.out HZR.out HROW.out HSTRR.out HUS.out (.cells #[.int .i64 t.k, .string t.s, .int .i64 t.n, .bool t.b, .slice t.A t.xs.length t.c, .slice t.F t.vs.length t.d] 34) (.cells #[.string key, .int .i64 t.k, .string t.s, .int .i64 t.n, .bool t.b, .slice t.A t.xs.length t.c, .slice t.F t.vs.length t.d] 57); have HBA := Lib.hid (HB.out.trans (hb.trans (Bel.alloc w2 (.cells #[.int .i64 t.k, .string t.s, .int .i64 t.n, .bool t.b, .slice t.A t.xs.length t.c, .slice t.F t.vs.length t.d] 34)))); have HCASE := Lib.hid hcase; have HZ2 := Lib.hid hz; have HROW3 := Lib.hid hrow3; have HZ3 := Lib.hid hz3; have HSTR3 := Lib.hid hstr3; have HUS3 := Lib.hid hus3; obtain ⟨z0, z1, z2, z3, z4, z5⟩ := cs_cells hz; have f0 := hz.free 0; have f1 := hz.free 1; have f2 := hz.free 2; have f3 := hz.free 3; have f4 := hz.free 4; have f5 := hz.free 5; have HSRC := Lib.hid (src_new w2 (.cells #[.int .i64 t.k, .string t.s, .int .i64 t.n, .bool t.b, .slice t.A t.xs.length t.c, .slice t.F t.vs.length t.d] 34) key t); have HBB := Lib.hid (HBA.out.trans (Bel.alloc _ (.cells #[.string key, .int .i64 t.k, .string t.s, .int .i64 t.n, .bool t.b, .slice t.A t.xs.length t.c, .slice t.F t.vs.length t.d] 57))); have HSW3 : Hid (w.heap.size < ((w2.alloc (.cells #[.int .i64 t.k, .string t.s, .int .i64 t.n, .bool t.b, .slice t.A t.xs.length t.c, .slice t.F t.vs.length t.d] 34)).alloc (.cells #[.string key, .int .i64 t.k, .string t.s, .int .i64 t.n, .bool t.b, .slice t.A t.xs.length t.c, .slice t.F t.vs.length t.d] 57)).heap.size) := Lib.hid (by have h1 := HSW.out; have h2 := hb.size; have h3 := ((Bel.alloc w2 (.cells #[.int .i64 t.k, .string t.s, .int .i64 t.n, .bool t.b, .slice t.A t.xs.length t.c, .slice t.F t.vs.length t.d] 34)).trans (Bel.alloc _ (.cells #[.string key, .int .i64 t.k, .string t.s, .int .i64 t.n, .bool t.b, .slice t.A t.xs.length t.c, .slice t.F t.vs.length t.d] 57))).size; omega); clear hb ht hcase hz hrow3 hz3 hstr3 hus3) | (with_reducible refine wp_kAppend rfl (.tmp 34) (.tmp 38) 32 rfl 57 _ 7 104 fF fF_len fF_one Tryd.underlying32 info_field cells_field (by decide) A' c' (((sortK ks).take k).zip us) k HZL.out rfl HROW3.out (some ⟨w2.heap.size + 1, 0, none⟩) 1 [(key, t)] 1 rfl rfl HSRC.out HMX.out HBY.out (k + 1) rfl ?_; intro A2 c2 w3 HR3 hO3 HK3; have HO3 := Lib.hid hO3; clear hO3 z0 z1 z2 z3 z4 z5 f0 f1 f2 f3 f4 f5))
      · have h9 : (!b) = true := by assumption
        have h8 : b = false := by simpa using h9
        subst h8
        have hn : v.conv = none := by
          rcases HCASE.out with ⟨h, _⟩ | ⟨_, h, _⟩
          · cases h
          · exact h
        refine bodyPost_ret (done2b (u := VT.zero) rfl rfl rfl (set6 HZ2.out _ _ _ _ _ _)) rfl ?_
        exact ⟨VT.zero, false, rfl, bel_on1 HBA.out (only6 _ _ _ _ _ _ _ _) (Nat.le_refl _), zeroIn _ _, .inr ⟨rfl, conv_map_none HJ.out.2 hn, rfl⟩⟩
      · have h9 : (!b) = false := by assumption
        have h8 : b = true := by simpa using h9
        subst h8
        have hn : v.conv = some t.plain := by
          rcases HCASE.out with ⟨_, h⟩ | ⟨h, _⟩
          · exact h
          · cases h
        have h4 := map_after HSW3.out HBB.out HO3.out HK3.out HRT.out HZ3.out HSTR3.out HNE.out HUS3.out
        rw [HSAE.out] at h4
        obtain ⟨hb4, hz4, hs4, hr4, hu4⟩ := h4
        have HB4 := Lib.hid hb4
        have HZ4 := Lib.hid hz4
        have HS4 := Lib.hid hs4
        have HR4 := Lib.hid hr4
        have HU4 := Lib.hid hu4
        have HW4 : Hid (w.heap.size < w3.heap.size) := Lib.hid (Nat.lt_of_lt_of_le HSW3.out HO3.out.size)
        have HRW : Hid (KRow w3 57 7 fF A2 c2 (((sortK ks).take (k + 1)).zip (us ++ [t]))) := Lib.hid (by rw [zip_push HKK.out HUL.out]; exact HR3.out)
        have HL4 : Hid ((us ++ [t]).length = k + 1) := Lib.hid (by rw [List.length_append, HUL.out]; rfl)
        have HCV' : Hid (∀ (i : Nat) (u : VT), (us ++ [t])[i]? = some u → ∃ (j : Nat) (v : AT), ks[j]? = (sortK ks)[i]? ∧ vs[j]? = some v ∧ v.conv = some u.plain) := Lib.hid (fun i u hu => by
          by_cases hi2 : i < us.length
          · rw [List.getElem?_append_left hi2] at hu; exact HCV.out i u hu
          · have hil := (List.getElem?_eq_some_iff.1 hu).1
            have e : i = us.length := by simp at hil; omega
            subst e
            simp at hu
            subst hu
            exact ⟨j, v, by rw [HJ.out.1, HUL.out, HKK.out], HJ.out.2, hn⟩)
        clear hb4 hz4 hs4 hr4 hu4
        go_roundw
        case rel => exact ⟨k + 1, us ++ [t], A2, c2, by omega, by go_num, rfl, HL4, HB4, HW4, HZ4, HRW, HS4, HR4, HU4, HCV'⟩
        case measure => simp [intOf]; omega
    · obtain rfl : n = k := by omega
      have hul := HUL.out
      subst hul
      obtain ⟨z0, z1, z2, z3, z4, z5⟩ := cs_cells HZR.out
      have f0 := HZR.out.free 0; have f1 := HZR.out.free 1; have f2 := HZR.out.free 2; have f3 := HZR.out.free 3; have f4 := HZR.out.free 4; have f5 := HZR.out.free 5
      have hkl := HN.out
      have HROW' : Hid (KRow wr 57 7 fF A' c' ((sortK ks).zip us)) := Lib.hid (by
        have h := HROW.out
        rw [List.take_of_length_le (by omega)] at h
        exact h)
      have htree := fields_tree (lo := w.heap.size + 1) (by omega) HROW'.out (by exact hc104) (fun g hg => (HRT.out g hg).1) (fun u hu => (HUS.out u hu).same (fun g hg => ⟨hg.1, hg.2.1⟩) fun _ _ _ => rfl) (fun q hq => by
        obtain ⟨i, hi, rfl⟩ := List.getElem_of_mem hq
        exact (HMEM.out i _ (List.getElem?_eq_getElem hi)).1)
      have HT := Lib.hid htree
      have HCN := Lib.hid (HCS.out us (by omega) HCV.out)
      clear htree
      go_wp2_with fail
      rw [← hkl]
      refine bodyPost_ret (done2b (u := VT.mk 4 ByteArray.empty 0 false none 0 [] A' c' (sortK ks) us) rfl rfl rfl (set6 HZR.out _ _ _ _ _ _)) rfl ?_
      exact ⟨_, true, rfl, bel_on1 HB.out (only6 _ _ _ _ _ _ _ _) (Nat.le_refl _), HT.out.only (only6 _ _ _ _ _ _ _ _) (fun g hg => ⟨by have := hg.1; simp; omega, hg.2⟩) (fun g hg => ⟨by have := hg.1; omega, Nat.lt_of_lt_of_le hg.2 (only6 _ _ _ _ _ _ _ _).size⟩), .inl ⟨rfl, by rw [plain_map]; exact HCN.out⟩⟩
end Go.Proofs.YtmgnomahnndeaaaDoor
