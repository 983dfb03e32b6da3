/-
  The walk of RunesSplitIrrelevant.
-/
import Derived.Test.YtbpmhleokmcggaaDoorAlive6
import Derived.Test.YtbpmhleokmcggaaDoorPieces
namespace Go.Proofs.YtbpmhleokmcggaaDoor
open Go.RowKit Go.BigFrame
set_option linter.unusedVariables false
set_option linter.unusedSimpArgs false
attribute [local go_sem ↓] sliced_cut run_min2 run_max2
attribute [local go_sem] cutA_zero

/-- '[]byte(s)', its block named. -/
theorem to_bytes_at (w : World) (l : List UInt8) (hl : l.length ≤ 140737488355328) :
    ∃ c w', (convert 9 34 (.string (str l))).run Tryd.prog w = .ok (.slice (some ⟨w.heap.size, 0, none⟩) l.length c) w' ∧ Own w' (some ⟨w.heap.size, 0, none⟩) l.length c l ∧ Only [] w w' := by
  have hsz : (str l).size = l.length := rfl
  refine ⟨_, _, Lib.run_convert_string_bytes w 9 34 5 (str l) Tryd.underlying9 Tryd.underlying34 Tryd.underlying5, ⟨rfl, ?_, ?_, ?_⟩, ⟨rfl, rfl, rfl, ?_, fun k hk _ => Lib.bytesWorld_at_old _ _ _ _ hk⟩⟩
  · exact grownCap_ge w _ 0 _
  · exact grownCap_le_maxLen w _ 0 _ (by rw [hsz]; unfold maxLen; omega)
  · refine ⟨vbs_length l, fun _ => ⟨_, rfl, by rw [Lib.bytesWorld_size]; exact Nat.lt_succ_self _, fun j u hu => ?_⟩⟩
    rw [vbs_getElem?] at hu
    have hj : j < l.length := by
      rcases Nat.lt_or_ge j l.length with h | h
      · exact h
      · rw [List.getElem?_eq_none h] at hu; cases hu
    rw [add_at, Nat.zero_add, Lib.bytesWorld_cell _ _ _ _ hj, ← hu, List.getElem?_eq_getElem hj]
    simp [vb, str, List.getD, hj]
  · rw [Lib.bytesWorld_size]; exact Nat.le_succ _
def lenOf6 : Value → Nat | .slice _ n _ => n | _ => 0
/-- What the loop has come to: the runes that are out, what is held back, what is to be written. -/
structure At6 (w : World) (r B : Nat) (L : List UInt8) (out : List Nat) (h rl : List UInt8) (A : Option Addr) (a : Nat) (R : Option Addr) (c : Nat) (wr : World) : Prop where
  row : RowAt wr 21 A out.length a (vrs (ints out))
  new : ∀ k, k ∈ rowT A → B ≤ k
  rest : Reads wr B R rl.length (vbs rl)
  apart : ∀ k, k ∈ rowT R → k ≠ r
  held : Hd r h wr
  small : h.length ≤ 3
  all : out ++ decL (h ++ rl) = decL L
  only : Only [] w wr
  top : B ≤ wr.heap.size
theorem reads_far {w : World} {B n : Nat} {A : Option Addr} {xs : List Value} {S : List Nat} (h : Reads w B A n xs) (hS : ∀ k, k ∈ S → B ≤ k) : 0 < n → ∀ ad, A = some ad → ad.block ∉ S := by
  intro h0 ad e1 hk
  obtain ⟨ad', e2, hl, _⟩ := h.2 h0
  rw [e1] at e2
  injection e2 with e2
  subst e2
  have := hS _ hk
  omega
theorem ints_append (a b : List Nat) : ints (a ++ b) = ints a ++ ints b := by simp [ints]
theorem not_in {R : Option Addr} {r : Nat} (h : ∀ k, k ∈ rowT R → k ≠ r) : ∀ ad, R = some ad → ad.block ∉ [r] := by
  rintro ad rfl hk
  exact h ad.block (by simp [rowT_some]) (by simpa using hk)
set_option maxRecDepth 100000 in
set_option maxHeartbeats 8000000 in
theorem splitLaw (s : ByteArray) (X : Option Addr) (n c : Nat) (ps : List UInt8) (w : World) (hT : Tabs w) (hs : s.size ≤ maxLen) (hp : ps.length = n ∧ n ≤ c ∧ c ≤ maxLen ∧ Reads w w.heap.size X n (vbs ps)) :
    Calls Tryd.prog 6 #[.string s, .slice X n c] w fun e w' => e = .returned (.bool true) ∧ Below w.heap.size w w' := by
  have HT := Lib.hid hT
  have HA := Lib.hid (fun (w1 : World) (hO : Only [] w w1) => alive_c (HT.out.only hO))
  obtain ⟨hpl, hnc, hcm, hpr⟩ := hp
  by_cases hbig : 3000 < s.size
  · have hi : (3000 : Int) < (s.size : Int) := by omega
    clear hT hs hpl hnc hcm hpr
    go_enter Tryd.func6, Tryd.ntmps6
    go_wp2_with (first | (go_at_call 20; refine (new_c).mono ?_; rintro e w1 ⟨rfl, _, hO⟩; have HO1 := Lib.hid hO; clear hO) | (go_at_call 9; refine (HA.out _ HO1.out).mono ?_; rintro e w2 ⟨rfl, hO⟩; have HO2 := Lib.hid (HO1.out.trans hO); clear hO))
    go_ret
    exact ⟨rfl, only_nil_below HO2.out⟩
  have hi : ¬ ((3000 : Int) < (s.size : Int)) := by omega
  by_cases hn0 : n = 0
  · have hi2 : (n : Int) = 0 := by omega
    clear hT hs hpl hnc hcm hpr
    go_enter Tryd.func6, Tryd.ntmps6
    go_wp2_with (first | (go_at_call 20; refine (new_c).mono ?_; rintro e w1 ⟨rfl, _, hO⟩; have HO1 := Lib.hid hO; clear hO) | (go_at_call 9; refine (HA.out _ HO1.out).mono ?_; rintro e w2 ⟨rfl, hO⟩; have HO2 := Lib.hid (HO1.out.trans hO); clear hO))
    go_ret
    exact ⟨rfl, only_nil_below HO2.out⟩
  have hi2 : ¬ ((n : Int) = 0) := by omega
  by_cases hn1 : 100 < n
  · have hi3 : (100 : Int) < (n : Int) := by omega
    clear hT hs hpl hnc hcm hpr
    go_enter Tryd.func6, Tryd.ntmps6
    go_wp2_with (first | (go_at_call 20; refine (new_c).mono ?_; rintro e w1 ⟨rfl, _, hO⟩; have HO1 := Lib.hid hO; clear hO) | (go_at_call 9; refine (HA.out _ HO1.out).mono ?_; rintro e w2 ⟨rfl, hO⟩; have HO2 := Lib.hid (HO1.out.trans hO); clear hO))
    go_ret
    exact ⟨rfl, only_nil_below HO2.out⟩
  have hi3 : ¬ ((100 : Int) < (n : Int)) := by omega
  have HSZ := Lib.hid (show s.size ≤ 3000 by omega)
  have b1 : decide ((3000 : Int) < (s.size : Int)) = false := by simp; omega
  have b2 : ((n : Int) == 0) = false := by simp; omega
  have b3 : decide ((100 : Int) < (n : Int)) = false := by simp; omega
  have b4 : (decide ((3000 : Int) < (s.size : Int)) || (n : Int) == 0) = false := by rw [b1, b2]; rfl
  have b5 : (decide ((3000 : Int) < (s.size : Int)) || (n : Int) == 0 || decide ((100 : Int) < (n : Int))) = false := by rw [b1, b2, b3]; rfl
  have HPL := Lib.hid hpl
  have HPR := Lib.hid hpr
  have HD := Lib.hid (fun w1 : World => decode_c (w := w1) s (by omega))
  have HDN := Lib.hid (show (decL s.data.toList).length ≤ 3000 by have := decL_length s.data.toList; rw [sl_size] at this; omega)
  have HB := Lib.hid (fun w1 : World => to_bytes_at w1 s.data.toList (by rw [sl_size]; omega))
  have HSS := Lib.hid (show str s.data.toList = s from rfl)
  rw [HSS.out] at HB
  have HLS := Lib.hid (show s.data.toList.length ≤ 3000 by rw [sl_size]; omega)
  obtain ⟨i0, hinf, hz0, hz1, hz2⟩ := info_parts info_rune
  clear hT hs hpl hpr hnc HSS hbig HSZ
  generalize s.data.toList = L at *
  go_enter Tryd.func6, Tryd.ntmps6
  go_wp2_with (go_at_call 20; refine (new_c).mono ?_; rintro e w1 ⟨rfl, hH, hO⟩; have HH1 := Lib.hid hH; have HO1 := Lib.hid hO; obtain ⟨c2, w2, hcv, hown, hO2⟩ := HB.out w1; have HOWN := Lib.hid hown; have HO2 := Lib.hid hO2; clear hH hO hown hO2)
  clear hcv b1 b2 b3 b4 b5
  have HAT := Lib.hid (show At6 w w.heap.size w2.heap.size L [] [] L none 0 (some ⟨w1.heap.size, 0, none⟩) c2 w2 from
    ⟨RowAt.nil _ _, by simp [rowT], HOWN.out.2.2.2, by have := HH1.out.lt; simp [rowT_some]; omega, Blk.only HH1.out HO2.out (by simp), by simp, by simp, HO1.out.trans HO2.out, Nat.le_refl _⟩)
  have hc2 := HOWN.out.2.1
  have hc2m := HOWN.out.2.2.1
  have HRB := Lib.hid (show w.heap.size < w2.heap.size by have h1 := HH1.out.lt; have := HO2.out.size; omega)
  clear HH1 HO1 HO2 HOWN HB
  generalize w2.heap.size = B at *
  generalize hrr : w.heap.size = r at HAT HRB
  go_loopw [6, 7, 8] (fun v6 v7 v8 wr => ∃ (i : Nat) (out : List Nat) (h rl : List UInt8) (A : Option Addr) (a : Nat) (R : Option Addr) (cr : Nat), v6 = .slice A out.length a ∧ v7 = .slice R rl.length cr ∧ v8 = .int .i64 i ∧ i + rl.length ≤ 3000 ∧ rl.length ≤ cr ∧ cr ≤ maxLen ∧ Hid (At6 w r B L out h rl A a R cr wr)) (fun v6 v7 v8 _ => lenOf6 v7)
  case atStart => exact ⟨0, [], [], L, none, 0, _, c2, rfl, rfl, rfl, by have := HLS.out; omega, hc2, hc2m, HAT⟩
  case round =>
    clear HAT hc2 hc2m
    obtain ⟨i, out, h, rl, A, a, R, cr, rfl, rfl, rfl, hir, hrc, hcrm, HAT⟩ := hrel
    have hcrm' := hcrm
    unfold maxLen at hcrm'
    have HON := Lib.hid (show out.length ≤ 3000 by have h1 := congrArg List.length HAT.out.all; rw [List.length_append] at h1; have := HDN.out; omega)
    by_cases hr0 : rl.length = 0
    · have hrl : rl = [] := List.eq_nil_of_length_eq_zero hr0
      subst hrl
      have hall := HAT.out.all
      rw [List.append_nil] at hall
      have HALL := Lib.hid hall
      have HCL := Lib.hid (close_c HAT.out.held (by have := HAT.out.small; omega))
      have hlen := congrArg List.length hall
      rw [List.length_append] at hlen
      have HLN := Lib.hid hlen.symm
      have hb1 := Lib.hid (show out.length + (decL h).length ≤ maxLen by rw [hlen]; have := HDN.out; unfold maxLen; omega)
      have hb2 := Lib.hid (show (out.length + (decL h).length) * 4 ≤ 140737488355328 by rw [hlen]; have := HDN.out; omega)
      have HDM := Lib.hid (show (decL L).length ≤ 1000000 by have := HDN.out; omega)
      have HMR := Lib.hid (show ints out ++ ints (decL h) = ints (decL L) by rw [← ints_append, hall])
      have hnri : ¬ ((0 : Int) < 0) := by omega
      clear hall hlen
      generalize decL h = oh at *
      generalize decL L = M at *
      go_wp2_with (first | (go_at_call 18; refine HCL.out.mono ?_; rintro e w5 ⟨⟨A5, c5, rfl, hrow5, hk5⟩, hh5, hO5⟩; have HR5 := Lib.hid hrow5.reads; have HRA := Lib.hid (HAT.out.row.only hO5 (fun k hk => by have := HAT.out.new k hk; have := HRB.out; simp; omega)); have HH5 := Lib.hid hh5; have HO5 := Lib.hid (HAT.out.only.join hO5 (fun k hk => .inr (by simp at hk; omega))); have HT5 := Lib.hid (Nat.le_trans HAT.out.top hO5.size); clear hrow5 hk5 hh5 hO5) | ((with_reducible refine wp_rowAppend rfl (.tmp 66) (.tmp 68) 24 rfl 21 i0 _ 4 Tryd.underlying24 hinf hz0 hz1 hz2 rfl A out.length a (vrs (ints out)) rfl HRA.out w5.heap.size A5 oh.length c5 (vrs (ints oh)) rfl HR5.out (vrs_one _) hb1.out hb2.out M.length HLN.out ?_); intro A6 c6 w6 HR6 hO6 HK6; have HO6 := Lib.hid (HO5.out.join hO6 (fun k hk => .inr (by have := HAT.out.new k hk; have := HRB.out; omega))); have HR6' := Lib.hid (show RowAt w6 21 A6 M.length c6 (vrs (ints M)) by have := HR6.out; rw [← vrs_append, HMR.out] at this; exact this); have HH6 := Lib.hid (Blk.only HH5.out hO6 (fun hk => by have := HAT.out.new _ hk; have := HRB.out; omega)); clear hO6 HR6 HK6) | (go_at_call 9; refine (HA.out _ HO6.out).mono ?_; rintro e w7 ⟨rfl, hO⟩; have HO7 := Lib.hid (HO6.out.trans hO); have HR7 := Lib.hid (HR6'.out.only hO (by simp)); have HH7 := Lib.hid (Blk.only HH6.out hO (by simp)); clear hO) | (go_at_call 11; refine (HD.out _).mono ?_; rintro e w8 ⟨A8, c8, rfl, hrow, hk, hO⟩; have HO8 := Lib.hid (HO7.out.trans hO); have HEE := Lib.hid (equalr_c (HR7.out.only hO (by simp)).reads hrow.reads c6 c8 HDM.out HDM.out); have HH8 := Lib.hid (Blk.only HH7.out hO (by simp)); clear hrow hk hO) | (go_at_call 10; refine (HEE.out).mono ?_; rintro e w9 ⟨rfl, hO⟩; rw [beq_self_eq_true]; have HO9 := Lib.hid (HO8.out.trans hO); have HH9 := Lib.hid (held_c (show Hd r [] w9 from Blk.only HH8.out hO (by simp))); clear hO) | (go_at_call 19; refine HH9.out.mono ?_; rintro e w10 ⟨rfl, rfl⟩))
      go_ret
      exact ⟨rfl, only_nil_below HO9.out⟩
    · have hri : (0 : Int) < (rl.length : Int) := by omega
      obtain ⟨q, hq⟩ : ∃ q, i % n = q := ⟨_, rfl⟩
      have hqn : q < n := by rw [← hq]; exact Nat.mod_lt _ (by omega)
      have hpr2 := HPR.out.only' HAT.out.only (Nat.le_refl _) (by simp)
      obtain ⟨xg, xo, hX, _, hxc⟩ := hpr2.plain (by omega)
      have hql : q < ps.length := by rw [HPL.out]; exact hqn
      obtain ⟨v, hv⟩ : ∃ v, v = (ps[q]'hql).toNat := ⟨_, rfl⟩
      have hv255 : v ≤ 255 := by rw [hv]; have := UInt8.toNat_lt (ps[q]'hql); omega
      have hcell : wr.cell? ⟨xg, xo + q, none⟩ = some (.int .u8 (v : Int)) := by
        rw [hv]
        exact hxc q _ (by rw [vbs_getElem?, List.getElem?_eq_getElem hql]; rfl)
      obtain ⟨K, hK⟩ : ∃ K, K = min rl.length (1 + v) := ⟨_, rfl⟩
      have hKn : K ≤ rl.length := by omega
      have hK0 : 0 < K := by omega
      have hmn : imin (rl.length : Int) (1 + (v : Int)) = (K : Int) := by have := imin_spec (rl.length : Int) (1 + (v : Int)); omega
      have hb1 := HAT.out.rest.cut_ (k := 0) (m := K) (c := cr) (Nat.zero_le _) hKn hrc
      rw [cutA_zero, Nat.sub_zero, List.drop_zero, ← vbs_take] at hb1
      have hb2 := HAT.out.rest.cut_ (k := K) (m := rl.length) (c := cr) hKn (Nat.le_refl _) hrc
      rw [← vbs_drop, ← vbs_take, List.take_of_length_le (by rw [List.length_drop]; exact Nat.le_refl _)] at hb2
      have HB2 := Lib.hid hb2
      have hspl := write_split (out := out) (held := h) (b := rl.take K) (rest := rl.drop K) (s := L) (by rw [List.take_append_drop]; exact HAT.out.all)
      have HSPL := Lib.hid (show (out ++ wout (h ++ rl.take K)) ++ decL (wheld (h ++ rl.take K) ++ rl.drop K) = decL L from hspl)
      have HWR := Lib.hid (write_c HAT.out.held (HT.out.only HAT.out.only) hb1 (by have := HAT.out.small; omega) (by omega) (c := cr))
      have HSM := Lib.hid (wheld_length (h ++ rl.take K))
      have hol : out.length + (wout (h ++ rl.take K)).length ≤ 3000 := by
        have h1 := congrArg List.length hspl
        rw [List.length_append, List.length_append] at h1
        have h2 := HDN.out
        have h3 : (wout (h ++ rl.take K)).length = (decL ((h ++ rl.take K).take (cutL (h ++ rl.take K)))).length := rfl
        omega
      have hd1 := Lib.hid (show out.length + (wout (h ++ rl.take K)).length ≤ maxLen by unfold maxLen; omega)
      have hd2 := Lib.hid (show (out.length + (wout (h ++ rl.take K)).length) * 4 ≤ 140737488355328 by omega)
      have hKi : (K : Int) ≤ (rl.length : Int) := by omega
      have hKc : K ≤ cr := by omega
      have hh3 : ¬ ((3 : Int) < ((wheld (h ++ rl.take K)).length : Int)) := by have := HSM.out; omega
      have HDL := Lib.hid (show (rl.drop K).length = rl.length - K from List.length_drop)
      clear hspl hb1 hb2 hol
      generalize wout (h ++ rl.take K) = o2 at *
      generalize wheld (h ++ rl.take K) = h2 at *
      generalize rl.drop K = rd at *
      subst hX
      have ht1 : (i : Int).tmod (n : Int) = (q : Int) := by rw [Int.tmod_eq_emod_of_nonneg (by omega), ← hq]; rfl
      have ht2 : (i : Int) % (n : Int) = (q : Int) := by rw [← hq]; rfl
      have hs1 : IntKind.i64.wrap (1 + (v : Int)) = 1 + (v : Int) := IntWalk.i64_in _ (by clear ht1 ht2; omega)
      have hs2 : IntKind.i64.wrap (v : Int) = (v : Int) := IntWalk.i64_in _ (by clear ht1 ht2 hs1; omega)
      have hs3 : wrap64 (v : Int) = (v : Int) := IntWalk.wrap64_in _ (by clear ht1 ht2 hs1 hs2; omega)
      clear hq hv hxc hql hK hpr2
      go_wp2_with (first | (go_at_call 17; refine HWR.out.mono ?_; rintro e w5 ⟨⟨A5, c5, rfl, hrow5, hk5⟩, hh5, hO5⟩; have HR5 := Lib.hid hrow5.reads; have HRA := Lib.hid (HAT.out.row.only hO5 (fun k hk => by clear ht1 ht2 hs1 hs2 hs3; have := HAT.out.new k hk; have := HRB.out; simp; omega)); have HH5 := Lib.hid hh5; have HO5 := Lib.hid hO5; clear hrow5 hk5 hh5 hO5) | ((with_reducible refine wp_rowAppend rfl (.tmp 48) (.tmp 53) 24 rfl 21 i0 _ 4 Tryd.underlying24 hinf hz0 hz1 hz2 rfl A out.length a (vrs (ints out)) rfl HRA.out w5.heap.size A5 o2.length c5 (vrs (ints o2)) rfl HR5.out (vrs_one _) hd1.out hd2.out (out ++ o2).length List.length_append ?_); intro A6 c6 w6 HR6 hO6 HK6; have HO6 := Lib.hid hO6; have HH6 := Lib.hid (held_c (show Hd r h2 w6 from Blk.only HH5.out hO6 (fun hk => by clear ht1 ht2 hs1 hs2 hs3; have := HAT.out.new _ hk; have := HRB.out; omega))); clear hO6) | (go_at_call 19; refine HH6.out.mono ?_; rintro e w7 ⟨rfl, rfl⟩))
      clear hs1 hs2 hs3 ht1 ht2
      have hrr' := HRB.out
      have hz5 := HO5.out.size
      have hz6 := HO6.out.size
      have htop := HAT.out.top
      have hdl := HDL.out
      refine ⟨⟨i + 1, out ++ o2, h2, rd, A6, c6, cutA cr K 1 R, cr - K, by rw [List.length_append], by rw [hdl], by go_num, by omega, by omega, by unfold maxLen; omega, Lib.hid ⟨?_, ?_, ?_, ?_, ?_, HSM.out, HSPL.out, ?_, by omega⟩⟩, by simp [lenOf6]; omega⟩
      · have := HR6.out
        rw [← vrs_append, ← ints_append] at this
        exact this
      · intro k hk
        rcases HK6.out k hk with h1 | h1
        · exact HAT.out.new k h1
        · omega
      · have hr2 := HB2.out
        rw [← hdl] at hr2
        have hr5 := hr2.only' HO5.out htop (fun _ => not_in (by rw [rowT_cut]; exact HAT.out.apart))
        exact hr5.only' HO6.out (by omega) (reads_far hr5 (fun k hk => HAT.out.new k hk))
      · rw [rowT_cut]; exact HAT.out.apart
      · exact Blk.only HH5.out HO6.out (fun hk => by have := HAT.out.new _ hk; omega)
      · exact (HAT.out.only.join HO5.out (fun k hk => .inr (by simp at hk; omega))).join HO6.out (fun k hk => .inr (by have := HAT.out.new k hk; omega))
end Go.Proofs.YtbpmhleokmcggaaDoor
