/-
  The law RingKeepsOrder, walked.
-/
import Derived.Test.YtjlmmibokppkgaaRingLaw
namespace Go.Proofs.Ytjlmmibokppkgaa
open Go.RowKit Go.BigFrame
set_option linter.unusedVariables false
set_option linter.unusedSimpArgs false
attribute [local go_sem ↓] sliced_cut run_min2 run_max2
attribute [local go_sem] cutA_zero

/-- The capacity that the law takes: 1 to 50. -/
theorem cap50 (n : Int) : ∃ N : Nat, wrap64 (1 + wrap64 ((IntKind.u64.wrap n).tmod 50)) = (N : Int) ∧ 1 ≤ N ∧ N ≤ 50 := by
  have h0 : 0 ≤ IntKind.u64.wrap n := by
    rw [IntKind.wrap_u64]
    omega
  have h1 : (IntKind.u64.wrap n).tmod 50 = (IntKind.u64.wrap n) % 50 := Int.tmod_eq_emod_of_nonneg h0
  rw [h1]
  have h2 : wrap64 ((IntKind.u64.wrap n) % 50) = (IntKind.u64.wrap n) % 50 := IntWalk.wrap64_in _ (by omega)
  rw [h2]
  have h3 : wrap64 (1 + (IntKind.u64.wrap n) % 50) = 1 + (IntKind.u64.wrap n) % 50 := IntWalk.wrap64_in _ (by omega)
  rw [h3]
  exact ⟨(1 + (IntKind.u64.wrap n) % 50).toNat, by omega, by omega, by omega⟩

/-- What holds at the head of the law's loop: j bytes have been got, u lie in the buffer, the rest is to come. -/
structure OrderInv (w w1 : World) (r bb N : Nat) (b : List UInt8) (m : Nat) (wr : World) (j u k : Nat) (R : Option Addr) (cr : Nat) (G : Option Addr) (cg : Nat) : Prop where
  sum : j + u ≤ m
  steps : k ≤ j
  rest : Reads wr w.heap.size R (m - (j + u)) (vbs (b.drop (j + u)))
  restc : m - (j + u) ≤ cr
  restm : cr ≤ maxLen
  got : wr.ownsRow w1.heap.size 5 1 (.slice G j cg) j (vbs (b.take j))
  ring : RingOf wr r bb N ((b.drop j).take u)
  below : Below w.heap.size w wr
  size : w1.heap.size ≤ wr.heap.size

set_option maxRecDepth 100000 in
set_option maxHeartbeats 1600000 in
theorem order_walk (n : Int) (A : Option Addr) (m c : Nat) (b : List UInt8) (P : Option Addr) (np cp : Nat) (ps : List UInt8) (w : World) (_ : (Lit.int .i64 n).wf = true)
    (hb : b.length = m ∧ m ≤ c ∧ c ≤ maxLen ∧ Reads w w.heap.size A m (vbs b)) (hps : ps.length = np ∧ np ≤ cp ∧ cp ≤ maxLen ∧ Reads w w.heap.size P np (vbs ps)) :
    Calls Try.prog 5 #[.int .i64 n, .slice A m c, .slice P np cp] w fun e w' => e = .returned (.bool true) ∧ Below w.heap.size w w' := by
  obtain ⟨hbl, hmc, hcm, hrd⟩ := hb
  obtain ⟨hpl, hpc, hpm, hrp⟩ := hps
  have HB := Lib.hid hbl
  have HP := Lib.hid hpl
  clear hbl hpl
  by_cases hbig : (3000 : Int) < (m : Int) ∨ (300 : Int) < (np : Int) ∨ np = 0
  · have h3 : (3000 : Int) < (m : Int) ∨ ((m : Int) ≤ 3000 ∧ (300 : Int) < (np : Int)) ∨ ((m : Int) ≤ 3000 ∧ np = 0) := by omega
    clear hbig
    rcases h3 with h1 | ⟨h0, h1⟩ | ⟨h0, rfl⟩
    all_goals
      go_enter Try.func5, Try.ntmps5
      go_wp2_with (go_at_call 16; refine (alive_any _).mono ?_; rintro e w2 ⟨rfl, hO2⟩)
      go_ret
      exact ⟨rfl, only_nil_below hO2⟩
  · have hm' : (m : Int) ≤ 3000 := by omega
    have hp1 : (np : Int) ≤ 300 := by omega
    have hp2 : ((np : Int) == 0) = false := by simp; omega
    have hp3 : 0 < np := by omega
    clear hbig
    obtain ⟨N, hN, hN1, hN2⟩ := cap50 n
    obtain ⟨i0, hi, hz0, hz1, hz2⟩ := info_parts info_byte
    go_enter Try.func5, Try.ntmps5
    go_wp2_with fail
    refine (new_c (N : Int) N rfl hN1 (by omega) _).mono ?_
    rintro e w1 ⟨r, bb, rfl, hr, hbb, hR1, hO1⟩
    have hown1 : (w1.alloc (.cells #[] 5)).ownsRow w1.heap.size 5 1 (.slice (some ⟨w1.heap.size, 0, none⟩) 0 0) 0 [] :=
      own_of_blk (Blk.new w1 5 []) (Nat.le_refl _) 0 (by simp) (by simp)
    have hlt1 := hR1.lt
    have hO1s := hO1.size
    go_wp2_with fail
    have hinv : OrderInv w w1 r bb N b m (w1.alloc (.cells #[] 5)) 0 0 0 A c (some ⟨w1.heap.size, 0, none⟩) 0 := by
      refine ⟨by omega, by omega, ?_, by omega, hcm, hown1, hR1.alloc _, (only_nil_below hO1).alloc hO1s _, by simp⟩
      exact (hrd.only' hO1 (Nat.le_refl _) (by simp)).only' ((Only.refl [] w1).alloc _) hO1s (by simp)
    have hrd0 := hrd
    clear hown1 hrd
    go_loopw [9, 10, 11] (fun rest got i wr => ∃ (j u k : Nat) (R : Option Addr) (cr : Nat) (G : Option Addr) (cg : Nat), rest = .slice R (m - (j + u)) cr ∧ got = .slice G j cg ∧ i = .int .i64 k ∧
        OrderInv w w1 r bb N b m wr j u k R cr G cg) (fun _ got _ _ => m - (match got with | .slice _ n _ => n | _ => 0))
    case atStart => exact ⟨0, 0, 0, A, c, _, 0, rfl, rfl, rfl, hinv⟩
    case round =>
      obtain ⟨j, u, k, R, cr, G, cg, rfl, rfl, rfl, hI⟩ := hrel
      have hju := hI.sum
      have hkj := hI.steps
      by_cases hlt : j < m
      · have hcl : ((b.drop j).take u).length = u := by rw [List.length_take, List.length_drop, HB.out]; omega
        have hle := hI.ring.le
        rw [hcl] at hle
        obtain ⟨a, ha⟩ : ∃ a, a = min (m - (j + u)) (N - u) := ⟨_, rfl⟩
        have hput := put_c hI.ring (b := b.drop (j + u)) hI.rest hI.below.size (fun h0 ad e => by
          obtain ⟨ad', e', hl, _⟩ := hI.rest.2 h0
          rw [e] at e'
          injection e' with e'
          subst e'
          omega) hI.restc (by omega) a (by rw [hcl]; exact ha)
        have hc2 : (b.drop j).take u ++ (b.drop (j + u)).take a = (b.drop j).take (u + a) := by rw [List.take_add, List.drop_drop]
        rw [hc2] at hput
        clear hc2
        have hL : 1 ≤ u + a ∧ u + a ≤ N ∧ a ≤ m - (j + u) ∧ j + (u + a) ≤ m := by omega
        obtain ⟨L, hLe⟩ : ∃ L, L = u + a := ⟨_, rfl⟩
        rw [← hLe] at hput hL
        have hcl2 : ((b.drop j).take L).length = L := by rw [List.length_take, List.length_drop, HB.out]; omega
        have hL1 : (1 : Int) ≤ (L : Int) := by omega
        have hL2 : (L : Int) ≤ (N : Int) := by omega
        have hL3 : (L : Int) ≤ 50 := by omega
        have ha1 : (a : Int) ≤ ((m - (j + u) : Nat) : Int) := by omega
        obtain ⟨x, hx⟩ : ∃ x, x = k % np := ⟨_, rfl⟩
        have hx1 : x < np := by rw [hx]; exact Nat.mod_lt _ hp3
        have hxa : (k : Int).tmod (np : Int) = (x : Int) := by rw [hx]; exact Int.ofNat_tmod k np |>.symm
        have hxb : (k : Int) % (np : Int) = (x : Int) := by rw [hx]; exact (Int.natCast_emod k np).symm
        obtain ⟨pb, po, rfl, hadlt, hpcell⟩ := hrp.plain hp3
        have hpx : (vbs ps)[x]? = some (vb (ps.getD x 0)) := by
          rw [vbs_getElem?, List.getD_eq_getElem?_getD, List.getElem?_eq_getElem (show x < ps.length by rw [HP.out]; exact hx1)]
          rfl
        have hpc0 := hpcell x _ hpx
        clear hpcell hpx
        obtain ⟨z, hz⟩ : ∃ z : Nat, z = (ps.getD x 0).toNat := ⟨_, rfl⟩
        have hz256 : (z : Int) < 256 := by have := UInt8.toNat_lt (ps.getD x 0); omega
        have hzv : vb (ps.getD x 0) = .int .u8 (z : Int) := by rw [hz]; rfl
        rw [hzv] at hpc0
        clear hz hzv hx
        obtain ⟨q, hq⟩ : ∃ q, q = z % L := ⟨_, rfl⟩
        have hq1 : q < L := by rw [hq]; exact Nat.mod_lt _ (by omega)
        have hqa : (z : Int).tmod (L : Int) = (q : Int) := by rw [hq]; exact Int.ofNat_tmod z L |>.symm
        have hqb : (z : Int) % (L : Int) = (q : Int) := by rw [hq]; exact (Int.natCast_emod z L).symm
        clear hq
        have hq2 : (q : Int) ≤ 49 := by omega
        have HPUT := Lib.hid hput
        have HL := Lib.hid hLe
        have HA := Lib.hid ha
        have HCL := Lib.hid hcl2
        clear hput hLe ha hcl hcl2
        go_wp2_with fail
        refine HPUT.out.mono ?_
        rintro e w3 ⟨rfl, hR3, hO3⟩
        go_wp2_with (first
          | (go_at_call 12; refine (len_c hR3 L HCL.out.symm).mono ?_; rintro e w' ⟨rfl, rfl⟩)
          | (go_at_call 14; refine (cap_c hR3).mono ?_; rintro e w' ⟨rfl, rfl⟩))
        have bl3 := Only.below hI.below hO3 hI.below.size (fun k hk => by simp at hk; omega)
        have hpc3 : w3.cell? ⟨pb, po + x, none⟩ = some (.int .u8 (z : Int)) := (bl3.cell (p := ⟨pb, po + x, none⟩) hadlt).trans hpc0
        have hxi : (x : Int) < (np : Int) := by omega
        have hs1 : IntKind.i64.wrap (1 + (q : Int)) = 1 + (q : Int) := IntWalk.i64_in _ (by omega)
        have hs2 : IntKind.i64.wrap (z : Int) = (z : Int) := IntWalk.i64_in _ (by omega)
        have hs3 : wrap64 (z : Int) = (z : Int) := IntWalk.wrap64_in _ (by omega)
        have hxn : ((x : Int)).toNat = x := by omega
        go_quiet ((go_at_call 12; exact Calls.quiet_of_same ((len_c (hR3.drewN _) L HCL.out.symm).mono fun _ _ ⟨he, hw⟩ => ⟨he, hw.symm⟩)))
        clear hs1 hs2 hs3 hpc3 hxa hxb hqa hqb
        have hRq := hR3.drewN nq
        have hgot3 := own_only hI.got hO3 (fun g h1 _ => by simp; omega)
        have hrest3 := (hI.rest.only' hO3 hI.below.size (fun h0 ad e => by obtain ⟨ad', e', hl, _⟩ := hI.rest.2 h0; rw [e] at e'; injection e' with e'; subst e'; simp; omega))
        have hsz3 := hO3.size
        have hszr := hI.size
        have hbase : w1.heap.size ≤ w3.heap.size := by omega
        have hrestc := hI.restc
        have hrestm := hI.restm
        clear hO3 hR3 hI
        go_wp2_with fail
        refine (peek_c hRq (1 + (q : Int)) (1 + q) (by rw [HCL.out]; omega)).mono ?_
        rintro e w4 ⟨g, rfl, hg, hB4, hO4⟩
        have hR4 := hRq.only hO4 (by simp) (by simp)
        have hqt : ((b.drop j).take L).take (1 + q) = (b.drop j).take (1 + q) := by rw [List.take_take, Nat.min_eq_left (by omega)]
        rw [hqt] at hB4
        clear hqt
        go_wp2_with fail
        refine (consume_c hR4 (1 + (q : Int)) (1 + q) (by omega) (by rw [HCL.out]; omega)).mono ?_
        rintro e w5 ⟨rfl, hR5, hO5⟩
        have hgr : g ≠ r := by have := hRq.lt; omega
        have hB5 := hB4.only hO5 (by simpa using hgr)
        have hO35 : Only [r] w3 w5 := ((only_undrewN hO4).more (by simp)).trans hO5
        have bl5 := Only.below bl3 hO35 bl3.size (by simp; omega)
        have hgot5 := own_only hgot3 hO35 (fun g h1 _ => by simp; omega)
        have hrest5 := hrest3.only hO35 bl3.size (by simp; omega)
        have hsz5 := hO35.size
        have hxr : Reads w5 w5.heap.size (some ⟨g, 0, none⟩) (1 + q) (vbs ((b.drop j).take (1 + q))) := by
          have h1 : (vbs ((b.drop j).take (1 + q))).length = 1 + q := by rw [vbs_length, List.length_take, List.length_drop, HB.out]; omega
          have := Reads.of_blk hB5 0 (1 + q) (by rw [h1]; omega) hB5.lt
          rwa [List.drop_zero, List.take_of_length_le (by rw [h1]; omega)] at this
        have hb1 := Lib.hid (show j + (1 + q) ≤ maxLen by unfold maxLen; omega)
        have hb2 := Lib.hid (show (j + (1 + q)) * 1 ≤ 140737488355328 by omega)
        have hb3 := Lib.hid (show w1.heap.size ≤ w5.heap.size by omega)
        have HG := Lib.hid hgot5
        have HX := Lib.hid hxr
        have hj1 : (j : Int) + (1 + (q : Int)) ≤ 3000 := by omega
        clear hgot3 hgot5 hxr hB4 hR4 hB5 hrest3 hO4 hO5
        go_wp2_with (first | (with_reducible refine wp_append rfl (.tmp 104) (.tmp 105) 25 rfl w1.heap.size 5 i0 _ 1 Try.underlying25 hi hz0 hz1 hz2 rfl (.slice G j cg) j (vbs (b.take j)) rfl HG.out w5.heap.size (some ⟨g, 0, none⟩) (1 + q) (1 + q) (vbs ((b.drop j).take (1 + q))) rfl HX.out (vbs_one _) hb1.out hb2.out hb3.out ?_; intro v6 w6 HV6 hG6 HV6'))
        have hv6 := HV6.out
        have hcat : vbs (b.take j) ++ vbs ((b.drop j).take (1 + q)) = vbs (b.take (j + (1 + q))) := by rw [← vbs_append, ← List.take_add]
        rw [hcat] at hv6
        obtain ⟨A6, c6, rfl, _, _, _, _, _⟩ := Reads.of_own hv6
        obtain ⟨T, hT1, hT2⟩ := own_set HG.out
        have hO56 : Only T w5 w6 := Only.grown (Only.refl _ _) hG6 (fun k hk => .inl (hT1 k hk))
        have hge : ∀ k, k ∈ T → w1.heap.size ≤ k := fun k hk => (hT2 k hk).1
        go_roundw
        case rel =>
          have hL4 := HL.out
          refine ⟨j + (1 + q), L - (1 + q), k + 1, cutA cr a 1 R, cr - a, A6, c6, ?_, rfl, by go_num, ?_⟩
          · rw [show m - (j + u) - a = m - (j + (1 + q) + (L - (1 + q))) by omega]
          · refine ⟨by omega, by omega, ?_, by omega, by omega, hv6, ?_, Only.below bl5 hO56 bl5.size (fun k hk => by have := hge k hk; omega), by have := hO56.size; omega⟩
            · have h1 := (hrest5.only hO56 bl5.size (fun k hk => by have := hge k hk; omega)).cut_ (k := a) (m := m - (j + u)) (by omega) (Nat.le_refl _) hrestc
              rw [show m - (j + (1 + q) + (L - (1 + q))) = m - (j + u) - a by omega, show j + (1 + q) + (L - (1 + q)) = j + u + a by omega]
              rw [← vbs_drop, List.drop_drop, List.take_of_length_le (by rw [vbs_length, List.length_drop, HB.out]; omega)] at h1
              exact h1
            · have h2 := hR5.only hO56 (fun hm => by have := hge _ hm; omega) (fun hm => by have := hge _ hm; omega)
              have e2 : ((b.drop j).take L).drop (1 + q) = (b.drop (j + (1 + q))).take (L - (1 + q)) := by rw [List.drop_take, List.drop_drop]
              rw [e2] at h2
              exact h2
        case measure => simp; omega
      · have hjm : j = m := by omega
        subst hjm
        have hu : u = 0 := by omega
        subst hu
        have hring := hI.ring
        rw [List.take_zero] at hring
        have hgot := hI.got
        rw [List.take_of_length_le (by rw [HB.out]; exact Nat.le_refl _)] at hgot
        obtain ⟨G', cg', hGe, _, _, hrg, _, _⟩ := Reads.of_own hgot
        injection hGe with e1 e2 e3
        subst e1
        subst e3
        have HS : Hid (∀ w', Only [] wr w' → StrAt w' A j c b ∧ StrAt w' G j cg b) := by
          intro w' hO
          have hO' := hO
          exact ⟨strAt_of ((hrd0.below hI.below).only' hO' hI.below.size (by simp)) c, strAt_of (hrg.only' hO' (Nat.le_refl _) (by simp)) cg⟩
        have hbl := hI.below
        clear hI hgot hrg
        go_wp2_with fail
        refine (alive_any _).mono ?_
        rintro e w7 ⟨rfl, hO7⟩
        obtain ⟨s1, s2⟩ := HS.out _ hO7
        unfold StrAt at s1 s2
        have hR7 := hring.only hO7 (by simp) (by simp)
        clear HS
        go_wp2_with (go_at_call 12; refine (len_c hR7 0 rfl).mono ?_; rintro e w' ⟨rfl, rfl⟩)
        go_ret
        exact ⟨rfl, Only.below hbl hO7 hbl.size (by simp)⟩

end Go.Proofs.Ytjlmmibokppkgaa
