/-
  The law FramerPiecesIrrelevant, walked.
-/
import Derived.Test.YtbphkdaciebgmaaDoorFramerLaw5
namespace Go.Proofs.YtbphkdaciebgmaaDoor
open Go.RowKit Go.BigFrame
set_option linter.unusedVariables false
set_option linter.unusedSimpArgs false
attribute [local go_sem ↓] sliced_cut run_min2 run_max2
attribute [local go_sem] cutA_zero

section
variable {P Q : World → List Nat → Prop} {w0 W W' : World} {B : Nat}
/-- A new row joins. -/
theorem pair_join (hP : IsThing P) (hQ : IsThing Q) (h : Pair P Q w0 B W) {A : Option Addr} {n c : Nat} {l : List UInt8} (hR : RowAt W' 5 A n c (vbs l)) (hk : ∀ k, k ∈ rowT A → W.heap.size ≤ k) (hO : Only [] W W') : Pair P (Both Q (Rw A n c l)) w0 B W' := by
  obtain ⟨T, U, h1, h2, hd, hT, hU, hb, hB, hB2⟩ := h
  refine ⟨T, U ++ rowT A, hP.only h1 hO (by simp), ⟨U, rowT A, rfl, hQ.only h2 hO (by simp), ⟨hR, rfl⟩, fun k hk1 hk2 => ?_⟩, fun k hk1 hk2 => ?_, hT, fun k hk1 => ?_, Only.below hb hO hb.size (by simp), hB, Nat.le_trans hB2 hO.size⟩
  · have := hQ.lt h2 k hk1
    have := hk k hk2
    omega
  · rcases List.mem_append.1 hk2 with h | h
    · exact hd k hk1 h
    · have := hP.lt h1 k hk1
      have := hk k h
      omega
  · rcases List.mem_append.1 hk1 with h | h
    · exact hU k h
    · exact Nat.le_trans hB2 (hk k h)
/-- The first row grows by what was read of the second. -/
theorem pair_grow (hP : IsThing P) {A X A' : Option Addr} {n c m d n' c' : Nat} {l b l' : List UInt8} (h : Pair P (Both (Rw A n c l) (Rw X m d b)) w0 B W) (hR : RowAt W' 5 A' n' c' (vbs l')) (hO : Only (rowT A) W W') (hk : ∀ k, k ∈ rowT A' → k ∈ rowT A ∨ W.heap.size ≤ k) :
    Pair P (Rw A' n' c' l') w0 B W' := by
  obtain ⟨T, U, h1, ⟨U1, U2, rfl, ⟨hA, rfl⟩, hX, hdd⟩, hd, hT, hU, hb, hB, hB2⟩ := h
  refine ⟨T, rowT A', hP.only h1 hO (fun k hk1 hk2 => hd k hk1 (by simp [hk2])), ⟨hR, rfl⟩, fun k hk1 hk2 => ?_, hT, fun k hk1 => ?_, Only.below hb hO hb.size (fun k hk1 => Nat.le_trans hB (hU k (by simp [hk1]))), hB, Nat.le_trans hB2 hO.size⟩
  · rcases hk k hk2 with h | h
    · exact hd k hk1 (by simp [h])
    · have := hP.lt h1 k hk1; omega
  · exact (hk k hk1).elim (fun h => hU k (by simp [h])) (fun h => Nat.le_trans hB2 h)
theorem pair_rows {A X : Option Addr} {n c m d : Nat} {l b : List UInt8} (h : Pair P (Both (Rw A n c l) (Rw X m d b)) w0 B W) : RowAt W 5 A n c (vbs l) ∧ RowAt W 5 X m d (vbs b) := by
  obtain ⟨T, U, h1, ⟨U1, U2, rfl, ⟨hA, rfl⟩, hX, hdd⟩, hd, hT, hU, hb, hB, hB2⟩ := h
  exact ⟨hA, hX.1⟩
theorem pair_rw {A : Option Addr} {n c : Nat} {l : List UInt8} (h : Pair P (Rw A n c l) w0 B W) : RowAt W 5 A n c (vbs l) := by
  obtain ⟨U, hU, _⟩ := h.second
  exact hU.1
end
theorem advS_one {k : Nat} {p : List UInt8} {f : Bool} {y : Nat} (h : y + 1 ≤ p.length) : advS ⟨k, p, f⟩ (1 + (y : Int)) = (0, ⟨k, p.drop (y + 1), f⟩) := by
  rw [show 1 + (y : Int) = ((y + 1 : Nat) : Int) by omega]
  exact advS_ok h
theorem finishS_free {s : FSt} (h1 : s.pend = []) (h2 : s.fin = false) : finishS s = (0, ⟨s.most, chunkOf [], true⟩) := by
  obtain ⟨a, b, c⟩ := s
  simp only at h1 h2
  subst h1 h2
  exact finishS_ok a

set_option maxRecDepth 100000 in
set_option maxHeartbeats 8000000 in
theorem pieces_walk (A : Option Addr) (n c : Nat) (l : List UInt8) (x : Int) (X : Option Addr) (pl pc : Nat) (ps : List UInt8) (w : World) (hT : Tz w) (h : l.length = n ∧ n ≤ c ∧ c ≤ maxLen ∧ Reads w w.heap.size A n (vbs l)) (hx : (Lit.int .u8 x).wf = true)
    (h' : ps.length = pl ∧ pl ≤ pc ∧ pc ≤ maxLen ∧ Reads w w.heap.size X pl (vbs ps)) :
    Calls Tryd.prog 5 #[.slice A n c, .int .u8 x, .slice X pl pc] w fun e w' => e = .returned (.bool true) ∧ Below w.heap.size w w' := by
  obtain ⟨hl, hnc, hcm, hr⟩ := h
  obtain ⟨hpl, hplc, hpcm, hps⟩ := h'
  obtain ⟨hx0, hx1⟩ := wf_u8 hx
  have kc := fun (w : World) (C : Array Value) (n c : Nat) => Lib.run_convert_bytes_const (P := Tryd.prog) w 26 5 C n c Tryd.underlying26 Tryd.underlying5
  have HT := Lib.hid hT
  have HR := Lib.hid hr
  have HL := Lib.hid hl
  have HPL := Lib.hid hpl
  have HPS := Lib.hid hps
  obtain ⟨q, hq⟩ : ∃ q : Nat, x % 50 = (q : Int) := ⟨(x % 50).toNat, by omega⟩
  have hq2 : x.tmod 50 = (q : Int) := by rw [Int.tmod_eq_emod_of_nonneg hx0]; exact hq
  have hq50 : q < 50 := by omega
  obtain ⟨k, hk⟩ : ∃ k : Nat, (1 : Int) + (q : Int) = (k : Int) := ⟨1 + q, by omega⟩
  have hk1 : 1 ≤ k := by omega
  have hk50 : k ≤ 50 := by omega
  have HK := Lib.hid hk
  have HN := Lib.hid (new_pair w hk1 (by omega : k ≤ 65536))
  clear hT hr hl hpl hps hx hk
  go_enter Tryd.func5, Tryd.ntmps5
  go_wp2_with fail
  rw [HK.out]
  clear hq hq2 hq50
  refine HN.out.mono ?_
  rintro e w1 ⟨rfl, hP1⟩
  have HP1 := Lib.hid hP1
  clear hP1 HN
  have h3 : decide ((2000 : Int) < (n : Int)) = true ∨ (decide ((2000 : Int) < (n : Int)) = false ∧ pl = 0) ∨ (decide ((2000 : Int) < (n : Int)) = false ∧ ((pl : Int) == 0) = false ∧ decide ((100 : Int) < (pl : Int)) = true) ∨ (decide ((2000 : Int) < (n : Int)) = false ∧ ((pl : Int) == 0) = false ∧ decide ((100 : Int) < (pl : Int)) = false) := by
    by_cases h1 : (2000 : Int) < (n : Int)
    · exact .inl (by simpa using h1)
    · by_cases h2 : pl = 0
      · exact .inr (.inl ⟨by simpa using h1, h2⟩)
      · by_cases h4 : (100 : Int) < (pl : Int)
        · exact .inr (.inr (.inl ⟨by simpa using h1, by rw [beq_eq_false_iff_ne]; omega, by simpa using h4⟩))
        · exact .inr (.inr (.inr ⟨by simpa using h1, by rw [beq_eq_false_iff_ne]; omega, by simpa using h4⟩))
  rcases h3 with h1 | ⟨h1, rfl⟩ | ⟨h1, h2, h4⟩ | ⟨h1, h2, h4⟩
  case' inr.inr.inr =>
    have hor : (decide ((2000 : Int) < (n : Int)) || (pl : Int) == 0 || decide ((100 : Int) < (pl : Int))) = false := by rw [h1, h2, h4]; rfl
    have hn2 : n ≤ 2000 := by rw [decide_eq_false_iff_not] at h1; omega
    have hp100 : pl ≤ 100 := by rw [decide_eq_false_iff_not] at h4; omega
    have hp0 : 0 < pl := by have := h2; rw [beq_eq_false_iff_ne] at this; omega
    go_wp2_with fail
    have hPst : Pair (Fr 52 w.heap.size ⟨k, [], false⟩) (Rw (some ⟨w1.heap.size, 0, none⟩) 0 0 []) w w.heap.size (w1.alloc (.cells #[] 5)) :=
      pair_row (fr_thing _ _ _) HP1.out (RowAt.of_blk (Blk.new w1 5 []) (by simp)) (by simp [rowT_some]) ((Only.refl [] w1).alloc _)
    have HPST := Lib.hid hPst
    clear hPst hor h1 h2 h4
    go_loopw [10, 11, 12, 58] (fun s10 s11 s12 s58 wr => ∃ (i t : Nat) (R : Option Addr) (rn rc : Nat) (rest : List UInt8) (G : Option Addr) (gn gc : Nat) (got : List UInt8), s58 = .int .i64 i ∧ s12 = .int .i64 t ∧ s10 = .slice R rn rc ∧ s11 = .slice G gn gc ∧ i + rn ≤ n ∧ t ≤ 70 * i ∧ rn ≤ rc ∧ rc ≤ 9223372036854775807 ∧
      Hid (Reads w w.heap.size R rn (vbs rest)) ∧ Hid (gn = got.length) ∧ Hid (got ++ chunksOf k rest = chunksOf k l) ∧ Hid (Pair (Fr 52 w.heap.size ⟨k, [], false⟩) (Rw G gn gc got) w w.heap.size wr)) (fun _ _ _ s58 _ => n + 2 - (intOf s58).toNat)
    case atStart => exact ⟨0, 0, A, n, c, l, _, 0, 0, [], rfl, rfl, rfl, rfl, by omega, by omega, hnc, by unfold maxLen at hcm; omega, HR, Lib.hid rfl, Lib.hid rfl, HPST⟩
    case round =>
      clear HPST HP1
      obtain ⟨i, t, R, rn, rc, rest, G, gn, gc, got, rfl, rfl, rfl, rfl, hirn, ht70, hrc, hrcm, hrest, HGN, hcatO, hPO⟩ := hrel
      have hrl : rest.length = rn := by have := hrest.out.1; rwa [vbs_length] at this
      have hin : (i : Int) < (n : Int) + 2 := by omega
      have HGB : Hid (got.length ≤ 20000) := Lib.hid (by
        have h1 := congrArg List.length hcatO.out
        rw [List.length_append] at h1
        have h2 := chunksOf_le (by omega : k ≤ 65536) _ l (Nat.le_refl _)
        have h3 := HL.out
        omega)
      by_cases hrn : 0 < rn
      case' pos =>
        have hrni : (0 : Int) < (rn : Int) := by omega
        obtain ⟨tk, htk⟩ : ∃ tk, tk = min k rn := ⟨_, rfl⟩
        have hmin : imin (k : Int) (rn : Int) = (tk : Int) := by have := imin_spec (k : Int) (rn : Int); omega
        have htk1 : 0 < tk := by omega
        have htk2 : tk ≤ rn := by omega
        have htkk : tk ≤ k := by omega
        have htke : rest.take k = rest.take tk ∧ rest.drop k = rest.drop tk := by
          by_cases hkr : k ≤ rn
          · rw [show tk = k by omega]; exact ⟨rfl, rfl⟩
          · rw [show tk = rn by omega, List.take_of_length_le (by omega), List.take_of_length_le (by omega), List.drop_of_length_le (by omega), List.drop_of_length_le (by omega)]; exact ⟨rfl, rfl⟩
        have hrd : Reads wr wr.heap.size R tk (vbs (rest.take tk)) := by
          have := ((hrest.out.below hPO.out.below).more hPO.out.below.size).cut_ (k := 0) (m := tk) (Nat.zero_le _) htk2 hrc
          rw [cutA_zero] at this
          simpa [vbs_take] using this
        have hl2 : (rest.take tk).length = tk := by rw [List.length_take]; omega
        obtain ⟨ch, hch⟩ : ∃ ch, ch = chunkOf (rest.take tk) := ⟨_, rfl⟩
        have HS := Lib.hid (start_pair (rw_thing _ _ _ _) hPO.out HT.out hrd (by omega : tk ≤ rc) (by unfold maxLen; omega) 0 _ (startS_ok (m := k) (l := rest.take tk) (by omega) (by omega)))
        rw [← hch] at HS
        have HCH : Hid (ch.length ≤ k + 9) := Lib.hid (by rw [hch]; have := chunkOf_le (p := rest.take tk) (by omega); omega)
        have HCUT : Hid (Reads w w.heap.size (cutA rc tk 1 R) (rn - tk) (vbs (rest.drop tk))) := Lib.hid (by
          have := hrest.out.cut_ (k := tk) (m := rn) htk2 (Nat.le_refl _) hrc
          rwa [List.take_of_length_le (by rw [List.length_drop, vbs_length]; omega), ← vbs_drop] at this)
        have HNEXT : Hid ((got ++ ch) ++ chunksOf k (rest.drop tk) = chunksOf k l) := Lib.hid (by rw [← hcatO.out, chunksOf_pos hk1 (by omega : 0 < rest.length), htke.1, htke.2, ← hch, List.append_assoc])
        clear htk hrd hl2 hch htke hrl hcatO hPO hrest
        go_wp2_with fail
        refine HS.out.mono ?_
        rintro e w4 ⟨rfl, hP3⟩
        have HP3 := Lib.hid hP3
        clear hP3 HS
        go_wp2_with fail
        have hch0 : 0 ≤ ch.length := Nat.zero_le _
        go_loopw [11, 12, 81] (fun s11 s12 s81 wr => ∃ (j t' : Nat) (G' : Option Addr) (gn' gc' : Nat) (got' pd : List UInt8), s81 = .int .i64 j ∧ s12 = .int .i64 t' ∧ s11 = .slice G' gn' gc' ∧ Hid (j + pd.length ≤ ch.length) ∧ j ≤ 100 ∧ t' ≤ t + j ∧
          Hid (gn' = got'.length) ∧ Hid (got' ++ pd = got ++ ch) ∧ Hid (Pair (Fr 52 w.heap.size ⟨k, pd, false⟩) (Rw G' gn' gc' got') w w.heap.size wr)) (fun _ _ s81 _ => k + 20 - (intOf s81).toNat)
        case atStart => exact ⟨0, t, G, gn, gc, got, ch, rfl, rfl, rfl, Lib.hid (by omega), by omega, by omega, HGN, Lib.hid rfl, HP3⟩
        case round =>
          obtain ⟨j, t', G', gn', gc', got', pd, rfl, rfl, rfl, hjl, hj100, htj, hgn', hcat, hP⟩ := hrel
          obtain ⟨L, hL⟩ : ∃ L, L = pd.length := ⟨_, rfl⟩
          have hjk : j < k + 20 := by have := hjl.out; have := HCH.out; omega
          have hjk2 : (j : Int) < (k : Int) + 20 := by omega
          have HLL := Lib.hid hL
          have hL59 : L ≤ 59 := by have := hjl.out; have := HCH.out; omega
          have hjL : Hid (j + L ≤ ch.length) := Lib.hid (by have := hjl.out; omega)
          clear hL
          by_cases hL0 : L = 0
          · have HPE := Lib.hid (pend_pair hP.out 0 (show 0 = pd.length by have := HLL.out; omega))
            go_wp2_with fail
            refine HPE.out.mono ?_
            rintro e w5 ⟨P, pd', rfl, hp, hpk, hO5⟩
            have hpd : pd = [] := List.eq_nil_of_length_eq_zero (by have := HLL.out; omega)
            have hP6 := hP.out.quiet (fr_thing _ _ _) (rw_thing _ _ _ _) hO5
            have hgf := hcat.out
            rw [hpd] at hP6
            rw [hpd, List.append_nil] at hgf
            have HP6 := Lib.hid hP6
            have HGF := Lib.hid hgf
            clear hp hpk hO5 HPE hpd hP6 hgf hcat hP HP3
            go_wp2_with fail
            refine (done_pair HP6.out false rfl).mono ?_
            rintro e _ ⟨rfl, rfl⟩
            go_wp2_with fail
            go_roundw
            case rel => exact ⟨i + 1, t', _, rn - tk, rc - tk, rest.drop tk, G', gn', gc', got', by go_num, rfl, rfl, rfl, by omega, by have := hjL.out; have := HCH.out; omega, by omega, by omega, HCUT, hgn', Lib.hid (by rw [HGF.out]; exact HNEXT.out), HP6⟩
            case measure => simp [intOf]; omega
          · have HPE := Lib.hid (pend_pair hP.out L HLL.out)
            have hLp : 0 < L := by omega
            have hLn : ((L : Int) == 0) = false := by rw [beq_eq_false_iff_ne]; omega
            obtain ⟨id, hid⟩ : ∃ id, id = t' % pl := ⟨_, rfl⟩
            have hidl : id < pl := by rw [hid]; exact Nat.mod_lt _ hp0
            have ht1 : (t' : Int).tmod (pl : Int) = (id : Int) := by rw [Int.tmod_eq_emod_of_nonneg (by omega), hid]; rfl
            have ht2 : (t' : Int) % (pl : Int) = (id : Int) := by rw [hid]; rfl
            obtain ⟨xg, xo, hX, hxg, hxc⟩ := (HPS.out.below hP.out.below).plain hp0
            have hpsl : id < ps.length := by rw [HPL.out]; exact hidl
            obtain ⟨v, hv⟩ : ∃ v, v = (ps[id]'hpsl).toNat := ⟨_, rfl⟩
            have hv255 : v ≤ 255 := by rw [hv]; have := UInt8.toNat_lt (ps[id]'hpsl); omega
            have hcell0 := hxc id _ (by rw [vbs_getElem?, List.getElem?_eq_getElem hpsl]; rfl)
            have hcell : ∀ w', Only [] wr w' → w'.cell? ⟨xg, xo + id, none⟩ = some (.int .u8 (v : Int)) := fun w' ho => by rw [hv]; exact cell_only hcell0 ho (by simp)
            obtain ⟨y, hy⟩ : ∃ y, y = v % L := ⟨_, rfl⟩
            have hyL : y < L := by rw [hy]; exact Nat.mod_lt _ hLp
            have hy1 : (v : Int).tmod (L : Int) = (y : Int) := by rw [Int.tmod_eq_emod_of_nonneg (by omega), hy]; rfl
            have hy2 : (v : Int) % (L : Int) = (y : Int) := by rw [hy]; rfl
            have HCELL := Lib.hid hcell
            have hid70 : t' ≤ 200000 := by omega
            subst hX
            clear hid hv hy hcell0 hxc hcell hpsl
            go_wp2_with fail
            refine HPE.out.mono ?_
            rintro e w5 ⟨P, pd', rfl, hp, hpk, hO5⟩
            have hP6 := pair_join (fr_thing _ _ _) (rw_thing _ _ _ _) hP.out hp hpk hO5
            have hcc := HCELL.out _ hO5
            have hple := hp.le
            have hpmx := hp.max
            unfold maxLen at hpmx
            have HP6 := Lib.hid hP6
            clear hp hpk hO5 HPE hP6 hP HP3
            go_wp2_with fail
            refine (adv_pair (both_thing (rw_thing _ _ _ _) (rw_thing _ _ _ _)) HP6.out _ 0 _ (advS_one (y := y) (by have := HLL.out; omega))).mono ?_
            rintro e w6 ⟨rfl, hP7⟩
            obtain ⟨hGr, hPr⟩ := pair_rows hP7
            obtain ⟨i0, hi, hz0, hz1, hz2⟩ := info_parts info_byte
            have HP7 := Lib.hid hP7
            have HGR := Lib.hid hGr
            have hPs : RowAt w6 5 P (1 + y) pd' (vbs (pd.take (1 + y))) := by rw [vbs_take]; exact hPr.first (1 + y) (by omega)
            have HPS2 := Lib.hid hPs.reads
            have hgb : gn' ≤ 30000 := by
              have h1 := congrArg List.length hcat.out
              have h2 := HGB.out
              have h3 := hgn'.out
              have h4 := HCH.out
              rw [List.length_append, List.length_append] at h1
              omega
            have hb1 := Lib.hid (show gn' + (1 + y) ≤ maxLen by unfold maxLen; omega)
            have hb2 := Lib.hid (show (gn' + (1 + y)) * 1 ≤ 140737488355328 by omega)
            clear hP7 hGr hPr hPs HP6 hcc HCELL
            go_wp2_with ((with_reducible refine wp_rowAppend rfl (.tmp 106) (.tmp 109) 26 rfl 5 i0 _ 1 Tryd.underlying26 hi hz0 hz1 hz2 rfl G' gn' gc' (vbs got') rfl HGR.out w6.heap.size P (1 + y) pd' (vbs (pd.take (1 + y))) rfl HPS2.out (vbs_one _) hb1.out hb2.out (gn' + (1 + y)) rfl ?_); intro G2 gc2 w7 HR8 hO8 HK8)
            have hdl : (pd.take (1 + y)).length = 1 + y := by rw [List.length_take]; have := HLL.out; omega
            have hP8 := pair_grow (fr_thing _ _ _) HP7.out (l' := got' ++ pd.take (1 + y)) (by rw [vbs_append]; exact HR8.out) hO8 HK8.out
            have HP8 := Lib.hid hP8
            clear hP8 hO8 HP7 HGR HPS2
            go_roundw
            case rel =>
              refine ⟨j + 1, t' + 1, G2, gn' + (1 + y), gc2, got' ++ pd.take (1 + y), pd.drop (1 + y), by go_num, by go_num, rfl, Lib.hid ?_, by omega, by omega, Lib.hid ?_, Lib.hid ?_, ?_⟩
              · rw [List.length_drop]; have := hjL.out; have := HLL.out; omega
              · rw [List.length_append, hdl, ← hgn'.out]
              · rw [List.append_assoc, List.take_append_drop]; exact hcat.out
              · rw [show 1 + y = y + 1 by omega] at HP8 ⊢; exact HP8
            case measure => simp [intOf]; omega
      case' neg =>
        obtain rfl : rn = 0 := by omega
        have hr0 : rest = [] := List.eq_nil_of_length_eq_zero hrl
        obtain ⟨ch, hch⟩ : ∃ ch, ch = chunkOf [] := ⟨_, rfl⟩
        have HS := Lib.hid (finish_pair (rw_thing _ _ _ _) hPO.out HT.out 0 _ (finishS_ok k))
        rw [← hch] at HS
        have HCH : Hid (ch.length ≤ k + 9) := Lib.hid (by rw [hch, chunkOf_nil]; simp)
        have HNEXT : Hid (got ++ ch = bodyOf k l) := Lib.hid (by rw [bodyOf, ← hcatO.out, hr0, chunksOf_nil, List.append_nil, hch])
        clear hch hr0 hrl hcatO hPO hrest
        go_wp2_with fail
        refine HS.out.mono ?_
        rintro e w4 ⟨rfl, hP3⟩
        have HP3 := Lib.hid hP3
        clear hP3 HS
        go_wp2_with fail
        have hch0 : 0 ≤ ch.length := Nat.zero_le _
        go_loopw [11, 12, 81] (fun s11 s12 s81 wr => ∃ (j t' : Nat) (G' : Option Addr) (gn' gc' : Nat) (got' pd : List UInt8), s81 = .int .i64 j ∧ s12 = .int .i64 t' ∧ s11 = .slice G' gn' gc' ∧ Hid (j + pd.length ≤ ch.length) ∧ j ≤ 100 ∧ t' ≤ t + j ∧
          Hid (gn' = got'.length) ∧ Hid (got' ++ pd = got ++ ch) ∧ Hid (Pair (Fr 52 w.heap.size ⟨k, pd, true⟩) (Rw G' gn' gc' got') w w.heap.size wr)) (fun _ _ s81 _ => k + 20 - (intOf s81).toNat)
        case atStart => exact ⟨0, t, G, gn, gc, got, ch, rfl, rfl, rfl, Lib.hid (by omega), by omega, by omega, HGN, Lib.hid rfl, HP3⟩
        case round =>
          obtain ⟨j, t', G', gn', gc', got', pd, rfl, rfl, rfl, hjl, hj100, htj, hgn', hcat, hP⟩ := hrel
          obtain ⟨L, hL⟩ : ∃ L, L = pd.length := ⟨_, rfl⟩
          have hjk : j < k + 20 := by have := hjl.out; have := HCH.out; omega
          have hjk2 : (j : Int) < (k : Int) + 20 := by omega
          have HLL := Lib.hid hL
          have hL59 : L ≤ 59 := by have := hjl.out; have := HCH.out; omega
          have hjL : Hid (j + L ≤ ch.length) := Lib.hid (by have := hjl.out; omega)
          clear hL
          by_cases hL0 : L = 0
          · have HPE := Lib.hid (pend_pair hP.out 0 (show 0 = pd.length by have := HLL.out; omega))
            go_wp2_with fail
            refine HPE.out.mono ?_
            rintro e w5 ⟨P, pd', rfl, hp, hpk, hO5⟩
            have hpd : pd = [] := List.eq_nil_of_length_eq_zero (by have := HLL.out; omega)
            have hP6 := hP.out.quiet (fr_thing _ _ _) (rw_thing _ _ _ _) hO5
            have hgf := hcat.out
            rw [hpd] at hP6
            rw [hpd, List.append_nil] at hgf
            have HP6 := Lib.hid hP6
            have HGF := Lib.hid hgf
            clear hp hpk hO5 HPE hpd hP6 hgf hcat hP HP3
            go_wp2_with fail
            refine (done_pair HP6.out true rfl).mono ?_
            rintro e _ ⟨rfl, rfl⟩
            have HE := Lib.hid (encode_c (k := k) (HT.out.below HP6.out.below (Nat.le_refl _)) ((HR.out.below HP6.out.below).more HP6.out.below.size) hnc hcm (by omega) hk1 (by omega))
            have hgl : got' = bodyOf k l := by rw [HGF.out]; exact HNEXT.out
            rw [← hgl] at HE
            clear hgl
            go_wp2_with fail
            refine HE.out.mono ?_
            rintro e w8 ⟨E, ec, rfl, hE, hEk, hO8⟩
            have HE8 := Lib.hid hE
            have HP8 := Lib.hid (HP6.out.quiet (fr_thing _ _ _) (rw_thing _ _ _ _) hO8)
            clear hE hEk hO8 HE HP6
            go_wp2_with fail
            refine (alive_c (HT.out.below HP8.out.below (Nat.le_refl _))).mono ?_
            rintro e w9 ⟨rfl, hO9⟩
            have HP9 := Lib.hid (HP8.out.quiet (fr_thing _ _ _) (rw_thing _ _ _ _) hO9)
            have hc1 := row_str (pair_rw HP9.out) w9 (Only.refl _ _)
            have hc2 := row_str HE8.out w9 hO9
            have hfs := finishS_fin (s := ⟨k, [], true⟩) rfl
            have HF := Lib.hid (finish_pair (rw_thing _ _ _ _) HP9.out HT.out 4 _ hfs)
            clear hO9 HP8 HE8 hfs
            go_wp2_with fail
            refine HF.out.mono ?_
            rintro e w10 ⟨rfl, hP10⟩
            have hP11 := hP10.quiet (fr_thing _ _ _) (rw_thing _ _ _ _) ((Only.refl [] w10).alloc (.cells #[.int .u8 120] 5 (1, 2)))
            have HS2 := Lib.hid (start_pair (rw_thing _ _ _ _) hP11 HT.out (X := some ⟨w10.heap.size, 0, none⟩) (m := 1) (d := 1) (b := [120]) ((Reads.fresh w10 [120] #[.int .u8 120] rfl 5 (1, 2) (w10.heap.size + 1) (by omega)).more (by simp)) (Nat.le_refl _) (by unfold maxLen; omega) 4 _ (startS_fin (s := ⟨k, [], true⟩) rfl [120]))
            clear hP10 hP11 HF HP9 hc1 hc2
            go_wp2_with fail
            refine HS2.out.mono ?_
            rintro e w11 ⟨rfl, hP12⟩
            have HB := Lib.hid hP12.below
            clear hP12 HS2
            go_wp2_with fail
            go_ret
            exact ⟨by simp, HB.out⟩
          · have HPE := Lib.hid (pend_pair hP.out L HLL.out)
            have hLp : 0 < L := by omega
            have hLn : ((L : Int) == 0) = false := by rw [beq_eq_false_iff_ne]; omega
            obtain ⟨id, hid⟩ : ∃ id, id = t' % pl := ⟨_, rfl⟩
            have hidl : id < pl := by rw [hid]; exact Nat.mod_lt _ hp0
            have ht1 : (t' : Int).tmod (pl : Int) = (id : Int) := by rw [Int.tmod_eq_emod_of_nonneg (by omega), hid]; rfl
            have ht2 : (t' : Int) % (pl : Int) = (id : Int) := by rw [hid]; rfl
            obtain ⟨xg, xo, hX, hxg, hxc⟩ := (HPS.out.below hP.out.below).plain hp0
            have hpsl : id < ps.length := by rw [HPL.out]; exact hidl
            obtain ⟨v, hv⟩ : ∃ v, v = (ps[id]'hpsl).toNat := ⟨_, rfl⟩
            have hv255 : v ≤ 255 := by rw [hv]; have := UInt8.toNat_lt (ps[id]'hpsl); omega
            have hcell0 := hxc id _ (by rw [vbs_getElem?, List.getElem?_eq_getElem hpsl]; rfl)
            have hcell : ∀ w', Only [] wr w' → w'.cell? ⟨xg, xo + id, none⟩ = some (.int .u8 (v : Int)) := fun w' ho => by rw [hv]; exact cell_only hcell0 ho (by simp)
            obtain ⟨y, hy⟩ : ∃ y, y = v % L := ⟨_, rfl⟩
            have hyL : y < L := by rw [hy]; exact Nat.mod_lt _ hLp
            have hy1 : (v : Int).tmod (L : Int) = (y : Int) := by rw [Int.tmod_eq_emod_of_nonneg (by omega), hy]; rfl
            have hy2 : (v : Int) % (L : Int) = (y : Int) := by rw [hy]; rfl
            have HCELL := Lib.hid hcell
            have hid70 : t' ≤ 200000 := by omega
            subst hX
            clear hid hv hy hcell0 hxc hcell hpsl
            go_wp2_with fail
            refine HPE.out.mono ?_
            rintro e w5 ⟨P, pd', rfl, hp, hpk, hO5⟩
            have hP6 := pair_join (fr_thing _ _ _) (rw_thing _ _ _ _) hP.out hp hpk hO5
            have hcc := HCELL.out _ hO5
            have hple := hp.le
            have hpmx := hp.max
            unfold maxLen at hpmx
            have HP6 := Lib.hid hP6
            clear hp hpk hO5 HPE hP6 hP HP3
            go_wp2_with fail
            refine (adv_pair (both_thing (rw_thing _ _ _ _) (rw_thing _ _ _ _)) HP6.out _ 0 _ (advS_one (y := y) (by have := HLL.out; omega))).mono ?_
            rintro e w6 ⟨rfl, hP7⟩
            obtain ⟨hGr, hPr⟩ := pair_rows hP7
            obtain ⟨i0, hi, hz0, hz1, hz2⟩ := info_parts info_byte
            have HP7 := Lib.hid hP7
            have HGR := Lib.hid hGr
            have hPs : RowAt w6 5 P (1 + y) pd' (vbs (pd.take (1 + y))) := by rw [vbs_take]; exact hPr.first (1 + y) (by omega)
            have HPS2 := Lib.hid hPs.reads
            have hgb : gn' ≤ 30000 := by
              have h1 := congrArg List.length hcat.out
              have h2 := HGB.out
              have h3 := hgn'.out
              have h4 := HCH.out
              rw [List.length_append, List.length_append] at h1
              omega
            have hb1 := Lib.hid (show gn' + (1 + y) ≤ maxLen by unfold maxLen; omega)
            have hb2 := Lib.hid (show (gn' + (1 + y)) * 1 ≤ 140737488355328 by omega)
            clear hP7 hGr hPr hPs HP6 hcc HCELL
            go_wp2_with ((with_reducible refine wp_rowAppend rfl (.tmp 106) (.tmp 109) 26 rfl 5 i0 _ 1 Tryd.underlying26 hi hz0 hz1 hz2 rfl G' gn' gc' (vbs got') rfl HGR.out w6.heap.size P (1 + y) pd' (vbs (pd.take (1 + y))) rfl HPS2.out (vbs_one _) hb1.out hb2.out (gn' + (1 + y)) rfl ?_); intro G2 gc2 w7 HR8 hO8 HK8)
            have hdl : (pd.take (1 + y)).length = 1 + y := by rw [List.length_take]; have := HLL.out; omega
            have hP8 := pair_grow (fr_thing _ _ _) HP7.out (l' := got' ++ pd.take (1 + y)) (by rw [vbs_append]; exact HR8.out) hO8 HK8.out
            have HP8 := Lib.hid hP8
            clear hP8 hO8 HP7 HGR HPS2
            go_roundw
            case rel =>
              refine ⟨j + 1, t' + 1, G2, gn' + (1 + y), gc2, got' ++ pd.take (1 + y), pd.drop (1 + y), by go_num, by go_num, rfl, Lib.hid ?_, by omega, by omega, Lib.hid ?_, Lib.hid ?_, ?_⟩
              · rw [List.length_drop]; have := hjL.out; have := HLL.out; omega
              · rw [List.length_append, hdl, ← hgn'.out]
              · rw [List.append_assoc, List.take_append_drop]; exact hcat.out
              · rw [show 1 + y = y + 1 by omega] at HP8 ⊢; exact HP8
            case measure => simp [intOf]; omega
  all_goals
    go_wp2_with (go_at_call 14; refine (alive_c (HT.out.below HP1.out.below (Nat.le_refl _))).mono ?_; rintro e w3 ⟨rfl, hO3⟩)
    go_ret
    exact ⟨rfl, Only.below HP1.out.below hO3 HP1.out.below.size (by simp)⟩
end Go.Proofs.YtbphkdaciebgmaaDoor
