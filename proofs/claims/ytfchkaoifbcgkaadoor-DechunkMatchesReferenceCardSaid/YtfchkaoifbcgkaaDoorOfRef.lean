/-
  The contract of the reference's Of of layer 5.
-/
import Derived.Test.YtfchkaoifbcgkaaDoorDec2
import Derived.Test.YtfchkaoifbcgkaaDoorHexRef2
import Derived.LoopTactic
namespace Go.Proofs.YtfchkaoifbcgkaaDoor
open Go.RowKit Go.BigFrame
set_option linter.unusedVariables false
set_option linter.unusedSimpArgs false
attribute [local go_sem ↓] sliced_cut run_min2 run_max2
attribute [local go_sem] cutA_zero

/-- What Of holds between two rounds: the result's cells (block h), those of r (block h + 1), the rows of r. -/
structure ResAt (w0 w : World) (h : Nat) (P : Option Addr) (p : Nat) (S : Option Addr) (z : Nat) (y : List UInt8) (zz : List Nat) (wh co va : Bool) : Prop where
  out : Blk w h 38 [.slice none 0 0, .slice none 0 0, .bool false, .bool false, .bool false]
  head : Blk w (h + 1) 38 [.slice P y.length p, .slice S zz.length z, .bool wh, .bool co, .bool va]
  pay : RowAt w 5 P y.length p (vbs y)
  sizes : RowAt w 3 S zz.length z (vis (nats zz))
  newP : ∀ k, k ∈ rowT P → h + 2 ≤ k
  newS : ∀ k, k ∈ rowT S → h + 2 ≤ k
  only : Only [] w0 w
  base : h = w0.heap.size
/-- What Of answers. -/
def ResIs (w0 : World) (r : Res) (x : Ending) (w' : World) : Prop := ∃ P p S z, x = .returned (.agg #[.slice P r.pay.length p, .slice S r.sizes.length z, .bool r.whole, .bool r.complete, .bool r.valid]) ∧
  RowAt w' 5 P r.pay.length p (vbs r.pay) ∧ RowAt w' 3 S r.sizes.length z (vis (nats r.sizes)) ∧ (∀ k, k ∈ rowT P → w0.heap.size ≤ k) ∧ (∀ k, k ∈ rowT S → w0.heap.size ≤ k) ∧ Only [] w0 w'

section
variable {w0 w : World} {h : Nat} {P : Option Addr} {p : Nat} {S : Option Addr} {z : Nat} {y : List UInt8} {zz : List Nat} {wh co va : Bool}
theorem ResAt.set_ (hR : ResAt w0 w h P p S z y zz wh co va) {i : Nat} {v : Value} {wh' co' va' : Bool} (hb : [Value.slice P y.length p, .slice S zz.length z, .bool wh, .bool co, .bool va].set i v = [.slice P y.length p, .slice S zz.length z, .bool wh', .bool co', .bool va']) :
    ResAt w0 (w.setCell ⟨h + 1, i, none⟩ v) h P p S z y zz wh' co' va' := by
  have h1 := hR.head.set_ i v
  rw [hb] at h1
  exact ⟨hR.out.far (by simp) _, h1, hR.pay.far (fun hk => by have := hR.newP _ hk; simp at this) _, hR.sizes.far (fun hk => by have := hR.newS _ hk; simp at this) _, hR.newP, hR.newS, hR.only.setCell (.inr (by have := hR.base; simp; omega)) _, hR.base⟩
/-- The sizes grown. -/
theorem ResAt.grownS {w1 w2 : World} (hR : ResAt w0 w h P p S z y zz wh co va) (hO1 : Only [] w w1) (hO2 : Only (rowT S) w1 w2) {N : Nat} {S2 : Option Addr} {z2 : Nat} {zz2 : List Nat} (hS : RowAt w2 3 S2 N z2 (vis (nats zz2))) (hk : ∀ k, k ∈ rowT S2 → k ∈ rowT S ∨ w1.heap.size ≤ k) :
    ResAt w0 (w2.setCell ⟨h + 1, 1, none⟩ (.slice S2 N z2)) h P p S2 z2 y zz2 wh co va := by
  have hN : N = zz2.length := by have := hS.len; rw [vis_length, nats_length] at this; exact this.symm
  subst hN
  have hO : Only (rowT S) w w2 := (hO1.more (by simp)).trans hO2
  have hS0 : ∀ k, k ∈ rowT S → w0.heap.size ≤ k := fun k hk => by have := hR.newS k hk; have := hR.base; omega
  have hb := hR.base
  have hs := hR.only.size
  have hlt := hR.head.lt
  have hs1 := hO1.size
  have hhS : h + 1 ∉ rowT S := fun hk => by have := hR.newS _ hk; omega
  have hnew : ∀ k, k ∈ rowT S2 → h + 2 ≤ k := fun k hk' => by
    rcases hk k hk' with h1 | h1
    · exact hR.newS k h1
    · omega
  have hhead := (hR.head.only hO hhS).set_ 1 (.slice S2 zz2.length z2)
  have hPS := hR.pay.ne hR.sizes (by decide)
  refine ⟨(hR.out.only hO (fun hk => by have := hR.newS _ hk; omega)).far (by simp) _, by simpa using hhead, (hR.pay.only hO hPS).far (fun hk => by have := hR.newP _ hk; simp at this) _, hS.far (fun hk => by have := hnew _ hk; simp at this) _, hR.newP, hnew, ?_, hb⟩
  exact (hR.only.join hO (fun k hk => .inr (hS0 k hk))).setCell (.inr (by simp; omega)) _
/-- The payload grown. -/
theorem ResAt.grownP {w1 w2 : World} (hR : ResAt w0 w h P p S z y zz wh co va) (hO1 : Only [] w w1) (hO2 : Only (rowT P) w1 w2) {N : Nat} {P2 : Option Addr} {p2 : Nat} {y2 : List UInt8} (hP : RowAt w2 5 P2 N p2 (vbs y2)) (hk : ∀ k, k ∈ rowT P2 → k ∈ rowT P ∨ w1.heap.size ≤ k) :
    ResAt w0 (w2.setCell ⟨h + 1, 0, none⟩ (.slice P2 N p2)) h P2 p2 S z y2 zz wh co va := by
  have hN : N = y2.length := by have := hP.len; rw [vbs_length] at this; exact this.symm
  subst hN
  have hO : Only (rowT P) w w2 := (hO1.more (by simp)).trans hO2
  have hP0 : ∀ k, k ∈ rowT P → w0.heap.size ≤ k := fun k hk => by have := hR.newP k hk; have := hR.base; omega
  have hb := hR.base
  have hs := hR.only.size
  have hlt := hR.head.lt
  have hs1 := hO1.size
  have hhP : h + 1 ∉ rowT P := fun hk => by have := hR.newP _ hk; omega
  have hnew : ∀ k, k ∈ rowT P2 → h + 2 ≤ k := fun k hk' => by
    rcases hk k hk' with h1 | h1
    · exact hR.newP k h1
    · omega
  have hhead := (hR.head.only hO hhP).set_ 0 (.slice P2 y2.length p2)
  have hSP := hR.sizes.ne hR.pay (by decide)
  refine ⟨(hR.out.only hO (fun hk => by have := hR.newP _ hk; omega)).far (by simp) _, by simpa using hhead, hP.far (fun hk => by have := hnew _ hk; simp at this) _, (hR.sizes.only hO hSP).far (fun hk => by have := hR.newS _ hk; simp at this) _, hnew, hR.newS, ?_, hb⟩
  exact (hR.only.join hO (fun k hk => .inr (hP0 k hk))).setCell (.inr (by simp; omega)) _
theorem ResAt.drew (hR : ResAt w0 w h P p S z y zz wh co va) : ResAt w0 w.drew h P p S z y zz wh co va := ⟨hR.out, hR.head, hR.pay.keep fun _ _ => rfl, hR.sizes.keep fun _ _ => rfl, hR.newP, hR.newS, hR.only.drew, hR.base⟩
/-- The end: the result's cells written, read back. -/
theorem of_done (hR : ResAt w0 w h P p S z y zz wh co va) {res : Res} (hres : res = ⟨y, zz, wh, co, va⟩) {tmps : Array Value} (hp : tmps.getD 2 undef = .pointer (some ⟨h, 0, none⟩)) :
    bodyPost Tryd.prog Tryd.f17 (fun x w' => ResIs w0 res x w') .ret { tmps := tmps, defers := [] }
      (((((w.setCell ⟨h, 0, none⟩ (.slice P y.length p)).setCell ⟨h, 1, none⟩ (.slice S zz.length z)).setCell ⟨h, 2, none⟩ (.bool wh)).setCell ⟨h, 3, none⟩ (.bool co)).setCell ⟨h, 4, none⟩ (.bool va)) := by
  subst hres
  have h1 := ((((hR.out.set_ 0 (.slice P y.length p)).set_ 1 (.slice S zz.length z)).set_ 2 (.bool wh)).set_ 3 (.bool co)).set_ 4 (.bool va)
  simp only [List.set_cons_succ, List.set_cons_zero] at h1
  have hO : Only [h] w (((((w.setCell ⟨h, 0, none⟩ (.slice P y.length p)).setCell ⟨h, 1, none⟩ (.slice S zz.length z)).setCell ⟨h, 2, none⟩ (.bool wh)).setCell ⟨h, 3, none⟩ (.bool co)).setCell ⟨h, 4, none⟩ (.bool va)) :=
    ((((((Only.refl [h] w).setCell (.inl (by simp)) _).setCell (.inl (by simp)) _).setCell (.inl (by simp)) _).setCell (.inl (by simp)) _).setCell (.inl (by simp)) _)
  have hbase := hR.base
  refine bodyPost_ret (results_cell_row rfl _ _ h _ _ (0, 0) _ hp h1 Tryd.underlying38 rfl ?_) rfl ?_
  · kernel_rfl
  · refine ⟨P, p, S, z, rfl, hR.pay.only hO (fun k hk hk' => ?_), hR.sizes.only hO (fun k hk hk' => ?_), fun k hk => by have := hR.newP k hk; omega, fun k hk => by have := hR.newS k hk; omega, ?_⟩
    · have := hR.newP k hk; simp at hk'; omega
    · have := hR.newS k hk; simp at hk'; omega
    · exact (hR.only.join hO (fun k hk => .inr (by simp at hk; omega)))
end
def lenOf : Value → Nat
  | .slice _ n _ => n
  | _ => 0
set_option maxRecDepth 100000 in
set_option maxHeartbeats 8000000 in
theorem refOf_c {w : World} {B n c : Nat} {X : Option Addr} {b : List UInt8} (hb : Reads w B X n (vbs b)) (hB : B ≤ w.heap.size) (hnc : n ≤ c) (hcm : c ≤ maxLen) (hn : n ≤ 1000000) :
    Calls Tryd.prog 17 #[.slice X n c] w fun x w' => ResIs w (ofL b) x w' := by
  have HBD := Lib.hid hb
  have hbl : b.length = n := by have := hb.1; rwa [vbs_length] at this
  have HBL := Lib.hid hbl
  obtain ⟨res, hres⟩ : ∃ res, res = ofL b := ⟨_, rfl⟩
  have HRES := Lib.hid hres
  rw [← hres]
  clear hb hbl hres
  go_enter Tryd.func17, Tryd.ntmps17
  go_wp2
  have hR0 : ResAt w ((w.alloc (.cells #[.slice none 0 0, .slice none 0 0, .bool false, .bool false, .bool false] 38)).alloc (.cells #[.slice none 0 0, .slice none 0 0, .bool false, .bool false, .bool true] 38)) w.heap.size none 0 none 0 [] [] false false true := by
    have h1 := Blk.new (w.alloc (.cells #[.slice none 0 0, .slice none 0 0, .bool false, .bool false, .bool false] 38)) 38 [.slice none 0 0, .slice none 0 0, .bool false, .bool false, .bool true]
    rw [World.size_alloc] at h1
    exact ⟨(Blk.new w 38 [.slice none 0 0, .slice none 0 0, .bool false, .bool false, .bool false]).alloc _, h1, RowAt.nil _ _, RowAt.nil _ _, by simp [rowT], by simp [rowT], ((Only.refl [] w).alloc _).alloc _, rfl⟩
  have HR0 := Lib.hid hR0
  clear hR0
  obtain ⟨gb, hh⟩ : ∃ gb, gb = w.heap.size := ⟨_, rfl⟩
  rw [← hh] at HR0
  rw [show w.heap.size = gb from hh.symm]
  have HH := Lib.hid hh
  clear hh
  go_loopw [0] (fun s0 wr => ∃ (X1 : Option Addr) (n1 c1 : Nat) (b1 y : List UInt8) (zz : List Nat) (P : Option Addr) (p : Nat) (S : Option Addr) (z : Nat) (co : Bool), s0 = .slice X1 n1 c1 ∧ n1 ≤ c1 ∧ c1 ≤ maxLen ∧ y.length + n1 ≤ n ∧ zz.length + n1 ≤ n ∧
    Hid (Reads w B X1 n1 (vbs b1)) ∧ Hid (ResAt w wr gb P p S z y zz co co true) ∧ Hid (ofGo y zz co b1 = res)) (fun s0 _ => lenOf s0)
  case atStart => exact ⟨X, n, c, b, [], [], none, 0, none, 0, false, rfl, hnc, hcm, by simp, by simp, HBD, HR0, Lib.hid HRES.out.symm⟩
  case round =>
    clear HR0 hnc hcm HBD HBL HRES
    obtain ⟨X1, n1, c1, b1, y, zz, P, p, S, z, co, rfl, hn1, hc1, hy, hz, hb1, hR, hO⟩ := hrel
    have hl1 : b1.length = n1 := by have := hb1.out.1; rwa [vbs_length] at this
    have HL1 := Lib.hid hl1
    have hc1' := hc1
    unfold maxLen at hc1'
    obtain ⟨ly, hly⟩ : ∃ ly, ly = y.length := ⟨_, rfl⟩
    obtain ⟨lz, hlz⟩ : ∃ lz, lz = zz.length := ⟨_, rfl⟩
    rw [← hly] at hy
    rw [← hlz] at hz
    have HLY := Lib.hid hly
    have HLZ := Lib.hid hlz
    have r0 := hR.out.out.cell 0
    have r1 := hR.out.out.cell 1
    have r2 := hR.out.out.cell 2
    have r3 := hR.out.out.cell 3
    have r4 := hR.out.out.cell 4
    have k0 := hR.out.out.free 0
    have k1 := hR.out.out.free 1
    have k2 := hR.out.out.free 2
    have k3 := hR.out.out.free 3
    have k4 := hR.out.out.free 4
    have q0 := hR.out.head.cell 0
    have q1 := hR.out.head.cell 1
    have q2 := hR.out.head.cell 2
    have q3 := hR.out.head.cell 3
    have q4 := hR.out.head.cell 4
    have m0 := hR.out.head.free 0
    have m1 := hR.out.head.free 1
    have m2 := hR.out.head.free 2
    have m3 := hR.out.head.free 3
    have m4 := hR.out.head.free 4
    simp only [List.getElem?_cons_succ, List.getElem?_cons_zero] at r0 r1 r2 r3 r4 q0 q1 q2 q3 q4
    rw [← hly] at q0
    rw [← hlz] at q1
    clear hly hlz hl1
    cases co with
    | true =>
      have hO2 : Hid (res = ⟨y, zz, true, true, decide (b1.length = 0)⟩) := Lib.hid (by rw [← hO.out, ofGo, if_pos rfl])
      clear hO
      go_wp2
      have hly := HLY.out
      have hlz := HLZ.out
      subst hly hlz
      refine of_done (hR.out.set_ (i := 4) (v := .bool ((n1 : Int) == 0)) rfl) ?_ rfl
      rw [hO2.out, HL1.out]
      congr 1
      rw [Bool.eq_iff_iff]
      simp
    | false =>
      by_cases h0 : n1 = 0
      · subst h0
        obtain rfl : b1 = [] := List.eq_nil_of_length_eq_zero HL1.out
        have hO2 : Hid (res = ⟨y, zz, true, false, true⟩) := Lib.hid (by rw [← hO.out, ofGo, if_neg (by simp), dif_pos (show ([] : List UInt8).length = 0 from rfl)])
        clear hO
        go_wp2
        have hly := HLY.out
        have hlz := HLZ.out
        subst hly hlz
        exact of_done (hR.out.set_ (i := 2) (v := .bool true) rfl) hO2.out rfl
      · have h0i : ((n1 : Int) == 0) = false := by rw [beq_eq_false_iff_ne]; omega
        have h0L : ¬ b1.length = 0 := by rw [HL1.out]; exact h0
        have HPC := Lib.hid (refParse_c (hb1.out.only' hR.out.only hB (by simp)) hn1 hc1)
        rw [← parse_ref] at HPC
        have hgo := hO.out
        rw [ofGo, if_neg (by simp), dif_neg h0L] at hgo
        have HGO := Lib.hid hgo
        clear hO hgo h0L
        rcases parse_class b1 with ⟨v, k, hpo, hv, hk⟩ | hpo | hpo
        · have hkb : k ≤ n1 := by have := (parse_ok hpo).2.2.1; rw [HL1.out] at this; exact this
          have hk0 : 0 < k := by rw [hk, hexLine_length]; omega
          have HPO := Lib.hid hpo
          rw [hpo] at HPC
          unfold ansV at HPC
          simp only at HPC
          have hgo := HGO.out
          simp only [hpo] at hgo
          rw [if_neg (by simp), if_neg (by simp)] at hgo
          have HGO2 := Lib.hid hgo
          clear hpo hgo HGO hk
          obtain ⟨n2, hn2⟩ : ∃ n2, n2 = n1 - k := ⟨_, rfl⟩
          have hki : ¬ (n1 : Int) < (k : Int) := by omega
          have hrow := Lib.hid (hR.out.sizes.alloc (.cells #[.int .i64 (v : Int)] 3))
          have hsrc := Lib.hid (one_reads wr 3 (.int .i64 (v : Int)))
          have h1u := Lib.hid (one_int .i64 (v : Int))
          rw [← HLZ.out] at hrow
          have hb1' := Lib.hid (show lz + 1 ≤ maxLen by unfold maxLen; omega)
          have hb2' := Lib.hid (show (lz + 1) * 8 ≤ 140737488355328 by omega)
          obtain ⟨i0, hi, hz0, hz1, hz2⟩ := info_parts info_int
          have hO0 : Hid (Only [] wr (wr.alloc (.cells #[.int .i64 (v : Int)] 3))) := Lib.hid ((Only.refl [] wr).alloc _)
          have HB2 := hb1.out.cut_ (k := k) (m := n1) (c := c1) hkb (Nat.le_refl _) hn1
          rw [← vbs_drop, ← vbs_take, List.take_of_length_le (by rw [List.length_drop, HL1.out]; exact Nat.le_refl _)] at HB2
          have HB2 := Lib.hid HB2
          have HL2 : Hid ((b1.drop k).length = n1 - k) := Lib.hid (by rw [List.length_drop, HL1.out])
          have hc2 : n1 - k ≤ c1 - k := by omega
          have hc3 : c1 - k ≤ 9223372036854775807 := by omega
          have hy2 : ly + (n1 - k) ≤ n := by omega
          have hz2' : lz + 1 + (n1 - k) ≤ n := by omega
          have hdec : n1 - k < n1 := by omega
          have hcmp : (n1 - k < v ∧ ∃ kk, kk = n1 - k) ∨ (¬ n1 - k < v ∧ ∃ kk, kk = v) := by
            by_cases hc : n1 - k < v
            · exact .inl ⟨hc, _, rfl⟩
            · exact .inr ⟨hc, _, rfl⟩
          have hvis : Hid (vis (nats (zz ++ [v])) = vis (nats zz) ++ [.int .i64 (v : Int)]) := Lib.hid (by rw [nats_append, vis_append]; rfl)
          clear hn2 n2
          rcases hcmp with ⟨hcmp, kk, hkk⟩ | ⟨hcmp, kk, hkk⟩
          · go_wp2_with (first | (go_at_call 25; refine HPC.out.mono ?_; rintro e1 w1 ⟨rfl, hW⟩; rw [hW]; clear hW) | (with_reducible refine wp_rowAppend rfl (.tmp 38) (.tmp 40) 28 rfl 3 i0 _ 8 Tryd.underlying28 hi hz0 hz1 hz2 rfl S lz z (vis (nats zz)) rfl hrow.out (wr.heap.size + 1) (some ⟨wr.heap.size, 0, none⟩) 1 1 [.int .i64 (v : Int)] rfl hsrc.out h1u.out hb1'.out hb2'.out (lz + 1) rfl ?_; intro S2 z2 w2 HR2 hO2 HK2; have hRw := hR.out.grownS hO0.out hO2 (by rw [hvis.out]; exact HR2.out) HK2.out; have hd2 := (hR.out.head.only hO0.out (by simp)).only hO2 (fun hk => by have := hR.out.newS _ hk; omega); have HRW := Lib.hid hRw; have e1 := hd2.cell 1; have e1' := hd2.free 1; simp only [List.getElem?_cons_succ, List.getElem?_cons_zero] at e1; clear hO2 hRw hd2))
            clear hrow hsrc HR2 HK2 e1 e1' hi hz0 hz1 hz2 i0 hb1' hb2' h1u hO0 HPC HPO hvis r0 r1 r2 r3 r4 k0 k1 k2 k3 k4 q0 q1 q2 q3 q4 m0 m1 m2 m3 m4 h0i h0
            have HBV : Hid (Reads w B (cutA c1 k 1 X1) (n1 - k) (vbs ((b1.drop k).take (n1 - k)))) := Lib.hid (by
              have h1 := HB2.out.cut_ (k := 0) (m := n1 - k) (c := c1 - k) (Nat.zero_le _) (by omega) hc2
              rw [cutA_zero, Nat.sub_zero, List.drop_zero, ← vbs_take] at h1
              exact h1)
            refine region_begin (T := (gb + 1) :: rowT P) (by kernel_rfl) ?_
            have HWW := Lib.hid HRW.out.drew
            generalize (w2.setCell ⟨gb + 1, 1, none⟩ (.slice S2 (lz + 1) z2)).drew = W at HWW ⊢
            clear HRW
            refine region_seg [true, false, true, true, true] 4 (by kernel_rfl) (by kernel_rfl) (by kernel_rfl) rfl (fun _ _ d _ _ h => by cases d <;> exact h) ?_
            repeat (first | with_reducible refine wpMask_pass ?_ | (refine wpMask_want (by rfl) (fun K hK => ?_); go_big_quiet_op; refine hK _ ?_; clear hK K))
            with_reducible refine wpMask_nil ?_
            have t0 := HWW.out.head.cell 0
            simp only [List.getElem?_cons_zero] at t0
            rw [← HLY.out] at t0
            refine region_make 1 (v := .slice P ly p) (w1 := W) (by kernel_rfl) rfl (by rfl) (by go_simp) (Only.refl _ _) ?_
            simp only [List.getElem_toArray, List.getElem_cons_zero, List.getElem_cons_succ, Act.put, List.setIfInBounds_toArray, List.set_cons_zero, List.set_cons_succ]
            obtain ⟨i0, hi, hz0, hz1, hz2⟩ := info_parts info_byte
            have hb1' := Lib.hid (show ly + (n1 - k) ≤ maxLen by unfold maxLen; omega)
            have hb2' := Lib.hid (show (ly + (n1 - k)) * 1 ≤ 140737488355328 by omega)
            have hrow := Lib.hid HWW.out.pay
            rw [← HLY.out] at hrow
            have hsrc := Lib.hid (HBV.out.only' HWW.out.only hB (by simp))
            have hT3 : ∀ g, g ∈ rowT P → g ∈ (gb + 1) :: rowT P := fun g hg => by simp [hg]
            refine region_rowAppend 5 (by kernel_rfl) rfl (by rfl) (.tmp 51) (.tmp 54) 26 rfl 5 i0 _ 1 Tryd.underlying26 hi hz0 hz1 hz2 rfl P ly p (vbs y) rfl hrow.out B (cutA c1 k 1 X1) (n1 - k) (c1 - k) (vbs ((b1.drop k).take (n1 - k))) rfl hsrc.out (vbs_one _) hb1'.out hb2'.out (ly + (n1 - k)) rfl hT3 ?_
            intro P2 p2 W2 HP2 hO2 HKP2 hTO2
            simp only [List.getElem_toArray, List.getElem_cons_zero, List.getElem_cons_succ, Act.put, List.setIfInBounds_toArray, List.set_cons_zero, List.set_cons_succ]
            have HW2 := Lib.hid (HWW.out.grownP (Only.refl _ _) hO2 (by rw [← vbs_append] at HP2; exact HP2.out) HKP2.out)
            have hd2 := HWW.out.head.only hO2 (fun hk => by have := HWW.out.newP _ hk; omega)
            have t0' := hd2.cell 0
            have f0' := hd2.free 0
            clear t0 hO2 hd2
            refine region_seg [false, false, false, false, false, false, true] 1 (by kernel_rfl) (by kernel_rfl) (by kernel_rfl) rfl (fun _ _ d _ _ h => by cases d <;> exact h) ?_
            repeat (first | with_reducible refine wpMask_pass ?_ | (refine wpMask_want (by rfl) (fun K hK => ?_); go_big_quiet_op; refine hK _ ?_; clear hK K))
            with_reducible refine wpMask_nil ?_
            simp only [List.getElem?_cons_zero] at t0'
            refine region_store 7 (w1 := W2.setCell ⟨gb + 1, 0, none⟩ (.slice P2 (ly + (n1 - k)) p2)) (by kernel_rfl) rfl (by rfl) (by go_simp) ((Only.refl _ _).setCell (.inl (by simp)) _) ?_
            simp only [List.getElem_toArray, List.getElem_cons_zero, List.getElem_cons_succ, Act.put, List.setIfInBounds_toArray, List.set_cons_zero, List.set_cons_succ]
            refine region_end (by kernel_rfl) ?_
            clear hrow hsrc hi hz0 hz1 hz2 i0 hb1' hb2' HP2 HKP2 t0' f0' hTO2 hT3 HBV HWW
            generalize W2.setCell ⟨gb + 1, 0, none⟩ (.slice P2 (ly + (n1 - k)) p2) = V at HW2 ⊢
            have r0 := HW2.out.out.cell 0
            have r1 := HW2.out.out.cell 1
            have r2 := HW2.out.out.cell 2
            have r3 := HW2.out.out.cell 3
            have r4 := HW2.out.out.cell 4
            have k0 := HW2.out.out.free 0
            have k1 := HW2.out.out.free 1
            have k2 := HW2.out.out.free 2
            have k3 := HW2.out.out.free 3
            have k4 := HW2.out.out.free 4
            have q0 := HW2.out.head.cell 0
            have q1 := HW2.out.head.cell 1
            have q2 := HW2.out.head.cell 2
            have q3 := HW2.out.head.cell 3
            have q4 := HW2.out.head.cell 4
            have m0 := HW2.out.head.free 0
            have m1 := HW2.out.head.free 1
            have m2 := HW2.out.head.free 2
            have m3 := HW2.out.head.free 3
            have m4 := HW2.out.head.free 4
            simp only [List.getElem?_cons_succ, List.getElem?_cons_zero] at r0 r1 r2 r3 r4 q0 q1 q2 q3 q4
            obtain ⟨L, hL⟩ : ∃ L, L = (y ++ (b1.drop k).take (n1 - k)).length := ⟨_, rfl⟩
            obtain ⟨M, hM⟩ : ∃ M, M = (zz ++ [v]).length := ⟨_, rfl⟩
            rw [← hL] at q0
            rw [← hM] at q1
            have HL := Lib.hid hL
            have HM := Lib.hid hM
            have HLb : L + (n1 - k - (n1 - k)) ≤ n := by
              have h1 := HL2.out
              have h2 := HLY.out
              rw [List.length_append, List.length_take, h1, ← h2] at hL
              omega
            have HMb : M + (n1 - k - (n1 - k)) ≤ n := by
              have h2 := HLZ.out
              rw [List.length_append, List.length_singleton, ← h2] at hM
              omega
            clear hL hM
            have hfin : Hid (res = ⟨y ++ (b1.drop k).take (n1 - k), zz ++ [v], false, false, true⟩) := Lib.hid (by
              rw [← HGO2.out, if_pos (.inl (by rw [HL2.out]; exact hcmp)), List.take_of_length_le (by rw [HL2.out]; omega), List.take_of_length_le (by rw [HL2.out]; exact Nat.le_refl _)])
            clear HGO2
            go_wp2_with fail
            have hL := HL.out
            have hM := HM.out
            subst hL hM
            exact of_done HW2.out hfin.out rfl
          · go_wp2_with (first | (go_at_call 25; refine HPC.out.mono ?_; rintro e1 w1 ⟨rfl, hW⟩; rw [hW]; clear hW) | (with_reducible refine wp_rowAppend rfl (.tmp 38) (.tmp 40) 28 rfl 3 i0 _ 8 Tryd.underlying28 hi hz0 hz1 hz2 rfl S lz z (vis (nats zz)) rfl hrow.out (wr.heap.size + 1) (some ⟨wr.heap.size, 0, none⟩) 1 1 [.int .i64 (v : Int)] rfl hsrc.out h1u.out hb1'.out hb2'.out (lz + 1) rfl ?_; intro S2 z2 w2 HR2 hO2 HK2; have hRw := hR.out.grownS hO0.out hO2 (by rw [hvis.out]; exact HR2.out) HK2.out; have hd2 := (hR.out.head.only hO0.out (by simp)).only hO2 (fun hk => by have := hR.out.newS _ hk; omega); have HRW := Lib.hid hRw; have e1 := hd2.cell 1; have e1' := hd2.free 1; simp only [List.getElem?_cons_succ, List.getElem?_cons_zero] at e1; clear hO2 hRw hd2))
            clear hrow hsrc HR2 HK2 e1 e1' hi hz0 hz1 hz2 i0 hb1' hb2' h1u hO0 HPC HPO hvis r0 r1 r2 r3 r4 k0 k1 k2 k3 k4 q0 q1 q2 q3 q4 m0 m1 m2 m3 m4 h0i h0
            have HBV : Hid (Reads w B (cutA c1 k 1 X1) (v) (vbs ((b1.drop k).take (v)))) := Lib.hid (by
              have h1 := HB2.out.cut_ (k := 0) (m := v) (c := c1 - k) (Nat.zero_le _) (by omega) hc2
              rw [cutA_zero, Nat.sub_zero, List.drop_zero, ← vbs_take] at h1
              exact h1)
            refine region_begin (T := (gb + 1) :: rowT P) (by kernel_rfl) ?_
            have HWW := Lib.hid HRW.out.drew
            generalize (w2.setCell ⟨gb + 1, 1, none⟩ (.slice S2 (lz + 1) z2)).drew = W at HWW ⊢
            clear HRW
            refine region_seg [true, false, true, true, true] 4 (by kernel_rfl) (by kernel_rfl) (by kernel_rfl) rfl (fun _ _ d _ _ h => by cases d <;> exact h) ?_
            repeat (first | with_reducible refine wpMask_pass ?_ | (refine wpMask_want (by rfl) (fun K hK => ?_); go_big_quiet_op; refine hK _ ?_; clear hK K))
            with_reducible refine wpMask_nil ?_
            have t0 := HWW.out.head.cell 0
            simp only [List.getElem?_cons_zero] at t0
            rw [← HLY.out] at t0
            refine region_make 1 (v := .slice P ly p) (w1 := W) (by kernel_rfl) rfl (by rfl) (by go_simp) (Only.refl _ _) ?_
            simp only [List.getElem_toArray, List.getElem_cons_zero, List.getElem_cons_succ, Act.put, List.setIfInBounds_toArray, List.set_cons_zero, List.set_cons_succ]
            obtain ⟨i0, hi, hz0, hz1, hz2⟩ := info_parts info_byte
            have hb1' := Lib.hid (show ly + (v) ≤ maxLen by unfold maxLen; omega)
            have hb2' := Lib.hid (show (ly + (v)) * 1 ≤ 140737488355328 by omega)
            have hrow := Lib.hid HWW.out.pay
            rw [← HLY.out] at hrow
            have hsrc := Lib.hid (HBV.out.only' HWW.out.only hB (by simp))
            have hT3 : ∀ g, g ∈ rowT P → g ∈ (gb + 1) :: rowT P := fun g hg => by simp [hg]
            refine region_rowAppend 5 (by kernel_rfl) rfl (by rfl) (.tmp 51) (.tmp 54) 26 rfl 5 i0 _ 1 Tryd.underlying26 hi hz0 hz1 hz2 rfl P ly p (vbs y) rfl hrow.out B (cutA c1 k 1 X1) (v) (c1 - k) (vbs ((b1.drop k).take (v))) rfl hsrc.out (vbs_one _) hb1'.out hb2'.out (ly + (v)) rfl hT3 ?_
            intro P2 p2 W2 HP2 hO2 HKP2 hTO2
            simp only [List.getElem_toArray, List.getElem_cons_zero, List.getElem_cons_succ, Act.put, List.setIfInBounds_toArray, List.set_cons_zero, List.set_cons_succ]
            have HW2 := Lib.hid (HWW.out.grownP (Only.refl _ _) hO2 (by rw [← vbs_append] at HP2; exact HP2.out) HKP2.out)
            have hd2 := HWW.out.head.only hO2 (fun hk => by have := HWW.out.newP _ hk; omega)
            have t0' := hd2.cell 0
            have f0' := hd2.free 0
            clear t0 hO2 hd2
            refine region_seg [false, false, false, false, false, false, true] 1 (by kernel_rfl) (by kernel_rfl) (by kernel_rfl) rfl (fun _ _ d _ _ h => by cases d <;> exact h) ?_
            repeat (first | with_reducible refine wpMask_pass ?_ | (refine wpMask_want (by rfl) (fun K hK => ?_); go_big_quiet_op; refine hK _ ?_; clear hK K))
            with_reducible refine wpMask_nil ?_
            simp only [List.getElem?_cons_zero] at t0'
            refine region_store 7 (w1 := W2.setCell ⟨gb + 1, 0, none⟩ (.slice P2 (ly + (v)) p2)) (by kernel_rfl) rfl (by rfl) (by go_simp) ((Only.refl _ _).setCell (.inl (by simp)) _) ?_
            simp only [List.getElem_toArray, List.getElem_cons_zero, List.getElem_cons_succ, Act.put, List.setIfInBounds_toArray, List.set_cons_zero, List.set_cons_succ]
            refine region_end (by kernel_rfl) ?_
            clear hrow hsrc hi hz0 hz1 hz2 i0 hb1' hb2' HP2 HKP2 t0' f0' hTO2 hT3 HBV HWW
            generalize W2.setCell ⟨gb + 1, 0, none⟩ (.slice P2 (ly + (v)) p2) = V at HW2 ⊢
            have r0 := HW2.out.out.cell 0
            have r1 := HW2.out.out.cell 1
            have r2 := HW2.out.out.cell 2
            have r3 := HW2.out.out.cell 3
            have r4 := HW2.out.out.cell 4
            have k0 := HW2.out.out.free 0
            have k1 := HW2.out.out.free 1
            have k2 := HW2.out.out.free 2
            have k3 := HW2.out.out.free 3
            have k4 := HW2.out.out.free 4
            have q0 := HW2.out.head.cell 0
            have q1 := HW2.out.head.cell 1
            have q2 := HW2.out.head.cell 2
            have q3 := HW2.out.head.cell 3
            have q4 := HW2.out.head.cell 4
            have m0 := HW2.out.head.free 0
            have m1 := HW2.out.head.free 1
            have m2 := HW2.out.head.free 2
            have m3 := HW2.out.head.free 3
            have m4 := HW2.out.head.free 4
            simp only [List.getElem?_cons_succ, List.getElem?_cons_zero] at r0 r1 r2 r3 r4 q0 q1 q2 q3 q4
            obtain ⟨L, hL⟩ : ∃ L, L = (y ++ (b1.drop k).take (v)).length := ⟨_, rfl⟩
            obtain ⟨M, hM⟩ : ∃ M, M = (zz ++ [v]).length := ⟨_, rfl⟩
            rw [← hL] at q0
            rw [← hM] at q1
            have HL := Lib.hid hL
            have HM := Lib.hid hM
            have HLb : L + (n1 - k - (v)) ≤ n := by
              have h1 := HL2.out
              have h2 := HLY.out
              rw [List.length_append, List.length_take, h1, ← h2] at hL
              omega
            have HMb : M + (n1 - k - (v)) ≤ n := by
              have h2 := HLZ.out
              rw [List.length_append, List.length_singleton, ← h2] at hM
              omega
            clear hL hM
            have hcmp2 : v ≤ n1 - k := by omega
            have HB3 := HB2.out.cut_ (k := v) (m := n1 - k) (c := c1 - k) hcmp2 (Nat.le_refl _) hc2
            rw [← vbs_drop, ← vbs_take, List.take_of_length_le (by rw [List.length_drop, HL2.out]; exact Nat.le_refl _)] at HB3
            have hl3 : ((b1.drop k).drop v).length = n1 - k - v := by rw [List.length_drop, HL2.out]
            obtain ⟨n3, hn3⟩ : ∃ n3, n1 - k - v = n3 := ⟨_, rfl⟩
            have hl2 : ¬ (b1.drop k).length < v := by rw [HL2.out]; exact hcmp
            have hgo := HGO2.out
            have hc4 : n1 - k - v ≤ c1 - k - v := by omega
            have hc5 : c1 - k - v ≤ 9223372036854775807 := by omega
            have hdec2 : n1 - k - v < n1 := by omega
            rw [hn3] at hl3 HB3 HLb HMb hc4 hdec2
            match hb3 : (b1.drop k).drop v, hl3 with
            | [], hl3 =>
              simp only [List.length_nil] at hl3
              rw [hb3, if_pos (.inr rfl)] at hgo
              have hfin := Lib.hid hgo.symm
              subst hl3
              clear HGO2 HB3 hgo hb3 hl2
              go_wp2_with fail
              have hL := HL.out
              have hM := HM.out
              subst hL hM
              exact of_done HW2.out hfin.out rfl
            | x :: t, hl3 =>
              rw [hb3] at hgo HB3
              simp only [List.length_cons] at hl3
              obtain ⟨g, q, hA, hg, hcell⟩ := HB3.plain (by omega)
              have hx0 : V.cell? ⟨g, q, none⟩ = some (.int .u8 (x.toNat : Int)) := cell_only (hcell 0 _ rfl) HW2.out.only (by simp)
              have hn30 : ¬ n3 = 0 := by omega
              have hn3i : ((n3 : Int) == 0) = false := by rw [beq_eq_false_iff_ne]; omega
              have hpos : 0 < n3 := by omega
              have hposi : (0 : Int) < (n3 : Int) := by omega
              rw [if_neg (by intro h; rcases h with h | h; exact hl2 h; simp at h)] at hgo
              by_cases h13 : x = 13
              · have h13i : ((x.toNat : Int) != 13) = false := by subst h13; rfl
                match t, hl3 with
                | [], hl3 =>
                  simp only [List.length_nil, Nat.zero_add] at hl3
                  rw [if_neg (by rw [h13]; simp), if_pos (by simp)] at hgo
                  have hfin := Lib.hid hgo.symm
                  subst hl3
                  clear HGO2 HB3 hgo hb3 hl2 hcell h13 hn30 hpos hposi
                  go_wp2_with fail
                  have hL := HL.out
                  have hM := HM.out
                  subst hL hM
                  exact of_done HW2.out hfin.out rfl
                | u :: t, hl3 =>
                  simp only [List.length_cons] at hl3
                  have hx1 : V.cell? ⟨g, q + 1, none⟩ = some (.int .u8 (u.toNat : Int)) := cell_only (hcell 1 _ rfl) HW2.out.only (by simp)
                  have h1n : 1 < n3 := by omega
                  have h1i : (1 : Int) < (n3 : Int) := by omega
                  have hne1 : ((n3 : Int) == 1) = false := by rw [beq_eq_false_iff_ne]; omega
                  by_cases h10 : u = 10
                  · have h10i : ((u.toNat : Int) != 10) = false := by subst h10; rfl
                    rw [if_neg (by rw [h13, h10]; simp), if_neg (by simp)] at hgo
                    have hfin := Lib.hid hgo
                    have HB4 := HB3.cut_ (k := 2) (m := n3) (c := c1 - k - v) (by omega) (Nat.le_refl _) hc4
                    rw [hA, ← vbs_drop, ← vbs_take, List.take_of_length_le (by simp; omega)] at HB4
                    have HB4 := Lib.hid HB4
                    have hv0 : ((v : Int) == 0) = decide (v = 0) := by rw [Bool.eq_iff_iff]; simp
                    have HV0 := Lib.hid hv0
                    have h2n : 2 ≤ n3 := by omega
                    have h2i : (2 : Int) ≤ (n3 : Int) := by omega
                    have hcc : n3 - 2 ≤ c1 - k - v - 2 := by omega
                    have hcm4 : c1 - k - v - 2 ≤ maxLen := by unfold maxLen; omega
                    have hLb2 : L + (n3 - 2) ≤ n := by omega
                    have hMb2 : M + (n3 - 2) ≤ n := by omega
                    have hdec3 : n3 - 2 < n1 := by omega
                    clear HGO2 HB3 hgo hb3 hl2 hcell h13 h10 hn30 hpos hposi hv0 hl3
                    go_wp2_with fail
                    have hL := HL.out
                    have hM := HM.out
                    subst hL hM
                    go_roundw
                    case rel =>
                      refine ⟨_, _, _, t, y ++ (b1.drop k).take v, zz ++ [v], P2, p2, S2, z2, ((v : Int) == 0), rfl, ?_, ?_, ?_, ?_, ?_, Lib.hid ((HW2.out.set_ (i := 3) (v := .bool ((v : Int) == 0)) rfl).set_ (i := 2) (v := .bool ((v : Int) == 0)) rfl), ?_⟩
                      all_goals first | exact hcc | exact hcm4 | exact hLb2 | exact hMb2 | exact HB4 | skip
                      exact Lib.hid (by rw [HV0.out]; exact hfin.out)
                    case measure => simp [lenOf]; omega
                  · have h10i : ((u.toNat : Int) != 10) = true := by
                      rw [bne_iff_ne]
                      intro e
                      exact h10 (UInt8.toNat.inj (by simpa using (show u.toNat = 10 by omega)))
                    rw [if_pos (.inr ⟨by simp, by simpa using h10⟩)] at hgo
                    have hfin := Lib.hid hgo.symm
                    clear HGO2 HB3 hgo hb3 hl2 hcell h13 h10 hn30 hpos hposi hl3
                    go_wp2_with fail
                    have hL := HL.out
                    have hM := HM.out
                    subst hL hM
                    exact of_done (HW2.out.set_ (i := 4) (v := .bool false) rfl) hfin.out rfl
              · have h13i : ((x.toNat : Int) != 13) = true := by
                  rw [bne_iff_ne]
                  intro e
                  exact h13 (UInt8.toNat.inj (by simpa using (show x.toNat = 13 by omega)))
                rw [if_pos (.inl (by simpa using h13))] at hgo
                have hfin := Lib.hid hgo.symm
                clear HGO2 HB3 hgo hb3 hl2 hcell h13 hn30 hl3
                go_wp2_with fail
                have hL := HL.out
                have hM := HM.out
                subst hL hM
                exact of_done (HW2.out.set_ (i := 4) (v := .bool false) rfl) hfin.out rfl
        · have HPO := Lib.hid hpo
          have hO2 : Hid (res = ⟨y, zz, false, false, true⟩) := Lib.hid (by rw [← HGO.out, hpo, if_pos rfl])
          clear hpo
          rw [HPO.out] at HPC
          unfold ansV at HPC
          simp only at HPC
          go_wp2_with (go_at_call 25; refine HPC.out.mono ?_; rintro e1 w1 ⟨rfl, hW⟩; rw [hW]; clear hW)
          have hly := HLY.out
          have hlz := HLZ.out
          subst hly hlz
          exact of_done hR.out hO2.out rfl
        · have HPO := Lib.hid hpo
          have hO2 : Hid (res = ⟨y, zz, false, false, false⟩) := Lib.hid (by rw [← HGO.out, hpo, if_neg (by simp), if_pos (by simp)])
          clear hpo
          rw [HPO.out] at HPC
          unfold ansV at HPC
          simp only at HPC
          go_wp2_with (go_at_call 25; refine HPC.out.mono ?_; rintro e1 w1 ⟨rfl, hW⟩; rw [hW]; clear hW)
          have hly := HLY.out
          have hlz := HLZ.out
          subst hly hlz
          exact of_done (hR.out.set_ (i := 4) (v := .bool false) rfl) hO2.out rfl
end Go.Proofs.YtfchkaoifbcgkaaDoor
