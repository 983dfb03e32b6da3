/-
  The law PrinterStripIsolated, walked.
-/
import Derived.Test.YthbcjljkpnkakaaEm13
namespace Go.Proofs.Ythbcjljkpnkakaa
open Go.RowKit Go.BigFrame NT
set_option linter.unusedVariables false
set_option linter.unusedSimpArgs false

/-- What stands through the writes to the stripped nodes. -/
structure SI (w2 w3 : World) (g0 o0 : Nat) (m : List NT) (wr : World) : Prop where
  bel : Bel w2 wr
  rows : ∀ i x, m[i]? = some x → wr.cell? ⟨g0, o0 + i * 8 + 6, none⟩ = some (.slice x.A x.b.length x.c) ∧ wr.cell? ⟨g0, o0 + i * 8 + 7, none⟩ = some (.slice x.B x.l.length x.d)
  there : ∀ b p, (∃ v, w3.cell? ⟨b, p, none⟩ = some v) → ∃ v, wr.cell? ⟨b, p, none⟩ = some v
  free : ∀ b p, wr.frozen? ⟨b, p, none⟩ = w3.frozen? ⟨b, p, none⟩
theorem SI.set_ {w2 w3 : World} {g0 o0 : Nat} {m : List NT} {wr : World} (h : SI w2 w3 g0 o0 m wr) {b p : Nat} (v : Value) (hb : w2.heap.size ≤ b) (hne : b = g0 → ∃ i, p = o0 + i * 8 + 2) : SI w2 w3 g0 o0 m (wr.setCell ⟨b, p, none⟩ v) := by
  refine ⟨bel_of_only ((bel_only h.bel).setCell (.inr hb) v), fun i x hx => ?_, fun b' p' hv => ?_, fun b' p' => by rw [World.frozen?_setCell]; exact h.free b' p'⟩
  · obtain ⟨h6, h7⟩ := h.rows i x hx
    constructor
    · rw [World.cell?_setCell_other]; exact h6
      intro he
      injection he with e1 e2
      obtain ⟨j, hj⟩ := hne e1
      omega
    · rw [World.cell?_setCell_other]; exact h7
      intro he
      injection he with e1 e2
      obtain ⟨j, hj⟩ := hne e1
      omega
  · obtain ⟨u, hu⟩ := h.there b' p' hv
    exact cell?_setCell_some hu
set_option maxRecDepth 100000 in
set_option maxHeartbeats 6400000 in
theorem siLaw (s : ByteArray) (w : World) (hs : s.size ≤ maxLen) :
    Calls Try.prog 5 #[.string s] w fun e w' => e = .returned (.bool true) ∧ Below w.heap.size w w' := by
  obtain ⟨l1, hl1, hP1⟩ := parsed_ex s
  have HPA := Lib.hid hP1
  have HLA := Lib.hid hl1
  have HAL := Lib.hid (fun W => alive_c W)
  clear hP1 hl1 hs
  go_enter Try.func5, Try.ntmps5
  go_wp2_with (first | (go_at_call 7; ((with_reducible refine (HPA.out w).mono ?_); rintro e w1 hp; obtain ⟨hb, A1, c1, m1, rfl, hr, he⟩ := hp.row; have HB1 := Lib.hid hb; have HE1 := Lib.hid he; have HX1 := Lib.hid hr; clear hp he hr hb)) | (go_at_call 11; ((with_reducible refine (pstripO_c HX1.out (by have := HLA.out.tots; rw [← HE1.out, tots_ers] at this; omega)).mono ?_); rintro e w3 ⟨hb, B, d, m, rfl, hK, hf, hI, he⟩; have HB3 := Lib.hid hb; have HK := Lib.hid hK; have HF := Lib.hid hf; have HI := Lib.hid hI; clear hb hK hf hI he)))
  obtain ⟨n, hn⟩ : ∃ n, n = m.length := ⟨_, rfl⟩
  obtain ⟨g0, o0, hgo⟩ : ∃ g0 o0, 0 < m.length → B = some ⟨g0, o0, none⟩ ∧ w1.heap.size ≤ g0 ∧ g0 ∈ rowT B ∧ (∀ p, w3.frozen? ⟨g0, p, none⟩ = false) ∧ ∀ (i : Nat) (x : NT), m[i]? = some x → x.Cells w3 g0 (o0 + i * 8) := by
    by_cases h0 : 0 < m.length
    · obtain ⟨g, o, hA0, hg, _⟩ := HK.out.at_ NT.cs_len (List.getElem?_eq_getElem h0) (by decide)
      refine ⟨g, o, fun _ => ⟨hA0, HF.out g (by rw [hA0]; simp [rowT]), by rw [hA0]; simp [rowT], fun p => RowK.free HK.out hA0 p, fun i x hi => ?_⟩⟩
      obtain ⟨g', o', hA1, hg', hc⟩ := HK.out.at_ NT.cs_len hi (by decide)
      rw [hA0] at hA1
      injection hA1 with hA1
      injection hA1 with e1 e2
      subst e1 e2
      exact hc
    · exact ⟨0, 0, fun h => absurd h h0⟩
  have hm5 := HK.out.le
  have hm6 := HK.out.max
  have HGO := Lib.hid hgo
  rw [← hn] at hm5 ⊢
  have HN := Lib.hid hn
  have HST : Hid (SI w1 w3 g0 o0 m w3) := Lib.hid ⟨HB3.out, fun i x hx => by
    have hlt := (List.getElem?_eq_some_iff.1 hx).1
    obtain ⟨_, _, _, _, hc⟩ := HGO.out (by omega)
    exact ⟨(hc i x hx) 6 _ rfl, (hc i x hx) 7 _ rfl⟩, fun _ _ h => h, fun _ _ => rfl⟩
  clear hn hgo
  unfold maxLen at hm6
  go_loopw [14] (fun s14 wr => ∃ i : Nat, i ≤ n ∧ s14 = .int .i64 i ∧ Hid (SI w1 w3 g0 o0 m wr)) (fun s14 _ => n - (intOf s14).toNat)
  case atStart => exact ⟨0, Nat.zero_le _, rfl, HST⟩
  case round =>
    obtain ⟨i, hi, rfl, HSI⟩ := hrel
    by_cases hlt : i < n
    · have hxt := List.getElem?_eq_getElem (l := m) (i := i) (by have := HN.out; omega)
      generalize m[i]'(by have := HN.out; omega) = x at hxt
      have hxm := List.mem_of_getElem? hxt
      obtain ⟨hB, hg1, hgr, hfz, hcs⟩ := HGO.out (by have := HN.out; omega)
      subst hB
      have HXI := Lib.hid (HI.out x hxm)
      have HXT := Lib.hid hxt
      obtain ⟨v2, hv2⟩ := HSI.out.there g0 (o0 + i * 8 + 2) ⟨_, hcs i x hxt 2 _ rfl⟩
      have hz2 : wr.frozen? ⟨g0, o0 + i * 8 + 2, none⟩ = false := by rw [HSI.out.free]; exact hfz _
      have HS2 := Lib.hid (fun v => HSI.out.set_ (b := g0) (p := o0 + i * 8 + 2) v hg1 (fun _ => ⟨i, rfl⟩))
      have n6 : ∀ v, (wr.setCell ⟨g0, o0 + i * 8 + 2, none⟩ v).cell? ⟨g0, o0 + i * 8 + 6, none⟩ = some (.slice x.A x.b.length x.c) := fun v => ((HS2.out v).rows i x HXT.out).1
      obtain ⟨nb, hnb⟩ : ∃ nb, nb = x.b.length := ⟨_, rfl⟩
      obtain ⟨nl, hnl⟩ : ∃ nl, nl = x.l.length := ⟨_, rfl⟩
      have hxb := HXI.out.body.1.1
      have hxl := HXI.out.els.1.1
      rw [← hnb] at hxb n6
      rw [← hnl] at hxl
      unfold maxLen at hxb hxl
      have HNB := Lib.hid hnb
      have HNL := Lib.hid hnl
      have hGR := Lib.hid hgr
      clear hxt hxm hcs hfz hgr hnb hnl
      go_wp2_with fail
      have HS3 := Lib.hid (HS2.out (.string ⟨#[99, 104, 97, 110, 103, 101, 100]⟩))
      clear hv2 hz2 n6
      go_loopw [27] (fun s27 wr => ∃ k : Nat, k ≤ nb ∧ s27 = .int .i64 k ∧ Hid (SI w1 w3 g0 o0 m wr)) (fun s27 _ => nb - (intOf s27).toNat)
      case atStart => exact ⟨0, Nat.zero_le _, rfl, HS3⟩
      case round =>
        obtain ⟨k, hk, rfl, HSJ⟩ := hrel
        by_cases hlk : k < nb
        · have hyt := List.getElem?_eq_getElem (l := x.b) (i := k) (by have := HNB.out; omega)
          generalize x.b[k]'(by have := HNB.out; omega) = y at hyt
          obtain ⟨gA, oA, hAA, hQ, hcA⟩ := HXI.out.body.1.2 (by have := HNB.out; omega)
          have a6 := (HSJ.out.rows i x HXT.out).1
          rw [hAA, ← HNB.out] at a6
          obtain ⟨v3, hv3⟩ := HSJ.out.there gA (oA + k * 8 + 3) ⟨_, hcA k y hyt 3 _ rfl⟩
          have hz3 := HSJ.out.free gA (oA + k * 8 + 3)
          rw [hQ.2.2.2] at hz3
          have HS4 := Lib.hid (HSJ.out.set_ (b := gA) (p := oA + k * 8 + 3) (.string ⟨#[99, 104, 97, 110, 103, 101, 100]⟩) hQ.1 (fun h => absurd (by rw [rowT_some, h]; simp) hQ.2.2.1))
          clear hyt hQ hcA hAA
          go_wp2_with fail
          go_roundw
          case rel => exact ⟨k + 1, by omega, by go_num, HS4⟩
          case measure => simp [intOf]; omega
        · obtain rfl : k = nb := by omega
          have a7 := (HSJ.out.rows i x HXT.out).2
          rw [← HNL.out] at a7
          have HS5 := HSJ
          go_wp2_with fail
          clear a7
          go_loopw [45] (fun s45 wr => ∃ k : Nat, k ≤ nl ∧ s45 = .int .i64 k ∧ Hid (SI w1 w3 g0 o0 m wr)) (fun s45 _ => nl - (intOf s45).toNat)
          case atStart => exact ⟨0, Nat.zero_le _, rfl, HS5⟩
          case round =>
            obtain ⟨k, hk, rfl, HSJ⟩ := hrel
            by_cases hlk : k < nl
            · have hyt := List.getElem?_eq_getElem (l := x.l) (i := k) (by have := HNL.out; omega)
              generalize x.l[k]'(by have := HNL.out; omega) = y at hyt
              obtain ⟨gA, oA, hAA, hQ, hcA⟩ := HXI.out.els.1.2 (by have := HNL.out; omega)
              have a6 := (HSJ.out.rows i x HXT.out).2
              rw [hAA, ← HNL.out] at a6
              obtain ⟨v3, hv3⟩ := HSJ.out.there gA (oA + k * 8) ⟨_, hcA k y hyt 0 _ rfl⟩
              have hz3 := HSJ.out.free gA (oA + k * 8)
              rw [hQ.2.2.2] at hz3
              have HS4 := Lib.hid (HSJ.out.set_ (b := gA) (p := oA + k * 8) (.int .i64 99) hQ.1 (fun h => absurd (by rw [rowT_some, h]; simp) hQ.2.2.1))
              clear hyt hQ hcA hAA
              go_wp2_with fail
              go_roundw
              case rel => exact ⟨k + 1, by omega, by go_num, HS4⟩
              case measure => simp [intOf]; omega
            · obtain rfl : k = nl := by omega
              go_wp2_with fail
              go_roundw
              case rel => exact ⟨i + 1, by omega, by go_num, HSJ⟩
              case measure => simp [intOf]; omega
    · obtain rfl : i = n := by omega
      have HBF := Lib.hid (HB1.out.trans HSI.out.bel)
      have HXF := Lib.hid (HX1.out.bel HSI.out.bel)
      go_wp2_with (first | (go_at_call 8; ((with_reducible refine (HAL.out _).mono ?_); rintro e w5 ⟨rfl, hb⟩; have HB5 := Lib.hid (HBF.out.trans hb); have HX5 := Lib.hid (HXF.out.bel hb); clear hb)) | (go_at_call 7; ((with_reducible refine (HPA.out w5).mono ?_); rintro e w6 hp; obtain ⟨hb, A6, c6, m6, rfl, hr, he⟩ := hp.row; have HB6 := Lib.hid (HB5.out.trans hb); have HX6 := Lib.hid (HX5.out.bel hb); have HE6 := Lib.hid he; have HZ6 := Lib.hid hr; clear hp he hr hb)) | (go_at_call 13; ((with_reducible refine (equal_c true HX6.out HZ6.out (by rw [keys_true, keys_true, HE1.out, HE6.out])).mono ?_); rintro e w7 ⟨rfl, hb⟩; have HB7 := Lib.hid (HB6.out.trans hb); clear hb)))
      go_ret
      exact ⟨rfl, HB7.out⟩
end Go.Proofs.Ythbcjljkpnkakaa
