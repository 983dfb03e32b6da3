/-
  Contracts: the laws' own weight and TooLarge.
-/
import Derived.Test.YtgbppdgpengcoaaDoorNm
import Derived.Test.YtgbppdgpengcoaaDoorRegion2
namespace Go.Proofs.YtgbppdgpengcoaaDoor
open Go.RowKit Go.BigFrame NT
set_option linter.unusedVariables false
set_option linter.unusedSimpArgs false

def WtPost12 (l : List NT) (w : World) (e : Ending) (w' : World) : Prop := ∃ n : Nat, n ≤ 10001 ∧ (n ≤ 10000 → n = tots l) ∧ e = .returned (.int .i64 n) ∧ Bel w w'
abbrev WtC (w : World) (A : Option Addr) (c deep : Nat) (l : List NT) : Prop := Calls Tryd.prog 25 #[.slice A l.length c, .int .i64 deep] w (WtPost12 l w)
def WtM (x : NT) : Prop := ∀ (w : World) (deep : Nat), deep ≤ 201 → x.In w (Lt w) → WtC w x.A x.c deep x.b ∧ WtC w x.B x.d deep x.l
set_option maxRecDepth 100000 in
set_option maxHeartbeats 3200000 in
theorem weight_row (l : List NT) (ih : ∀ x ∈ l, WtM x) (A : Option Addr) (c deep : Nat) (w : World) (hd : deep ≤ 201) (hA : Row w (Lt w) A c l) : WtC w A c deep l := by
  unfold WtC
  obtain ⟨n, hn⟩ : ∃ n, n = l.length := ⟨_, rfl⟩
  have hn5 := hA.len
  rw [← hn] at hn5 ⊢
  have HA := Lib.hid hA
  have HI := Lib.hid ih
  have HN := Lib.hid hn
  clear hA ih hn
  by_cases hdp : 200 < deep
  · go_enter Tryd.func25, Tryd.ntmps25
    go_wp2_with fail
    go_ret
    exact ⟨10001, by omega, by omega, rfl, Bel.refl _⟩
  by_cases hln : 1000 < n
  · go_enter Tryd.func25, Tryd.ntmps25
    go_wp2_with fail
    go_ret
    exact ⟨10001, by omega, by omega, rfl, Bel.refl _⟩
  go_enter Tryd.func25, Tryd.ntmps25
  go_wp2_with fail
  go_loopw [5, 17] (fun s5 s17 wr => ∃ (k q : Nat), k ≤ n ∧ q ≤ 10000 ∧ s5 = .int .i64 q ∧ s17 = .int .i64 k ∧ Hid (q = tots (l.take k)) ∧ Hid (Bel w wr)) (fun s5 s17 _ => n - (intOf s17).toNat)
  case atStart => exact ⟨0, 0, Nat.zero_le _, by omega, rfl, rfl, Lib.hid (by simp [tots_nil]), Lib.hid (Bel.refl _)⟩
  case round =>
    obtain ⟨k, q, hk, hq, rfl, rfl, HQ, HBR⟩ := hrel
    by_cases hlt : k < n
    · have hxt := List.getElem?_eq_getElem (l := l) (i := k) (by have := HN.out; omega)
      generalize l[k]'(by have := HN.out; omega) = x at hxt
      have hst := tots_step hxt
      rw [tot_eq] at hst
      have HST : Hid (tots (l.take (k + 1)) = q + (1 + tots x.b + tots x.l)) := Lib.hid (by rw [hst, HQ.out])
      obtain ⟨g, o, hAA, hg, ha⟩ := HA.out.cells hxt
      subst hAA
      have HXI := Lib.hid (HA.out.2 x (List.mem_of_getElem? hxt))
      have HMX := Lib.hid (fun W (hb : Bel w W) => HI.out x (List.mem_of_getElem? hxt) W (deep + 1) (by omega) (HXI.out.bel hb))
      obtain ⟨a0, a1, a2, a3, a4, a5, a6, a7⟩ := ha wr HBR.out
      clear hxt hst hg ha
      go_wp2_with fail
      refine region_begin (T := []) (by kernel_rfl) ?_
      have HBX := Lib.hid (Blk.new wr 36 [.int .i64 x.k, .int .i64 x.a, .string x.s, .string x.p, .bool x.h, .bool x.e, .slice x.A x.b.length x.c, .slice x.B x.l.length x.d]).drew
      have HBW : Hid (Bel w (wr.alloc (.cells #[.int .i64 x.k, .int .i64 x.a, .string x.s, .string x.p, .bool x.h, .bool x.e, .slice x.A x.b.length x.c, .slice x.B x.l.length x.d] 36)).drew) := Lib.hid (HBR.out.trans ((Bel.alloc _ _).trans (Below.refl _ _).drew))
      generalize (wr.alloc (.cells #[.int .i64 x.k, .int .i64 x.a, .string x.s, .string x.p, .bool x.h, .bool x.e, .slice x.A x.b.length x.c, .slice x.B x.l.length x.d] 36)).drew = W at HBX HBW ⊢
      have x6 : ∀ X : Later [] W, X.w.cell? ⟨wr.heap.size, 6, none⟩ = some (.slice x.A x.b.length x.c) := fun X => (HBX.out.only X.h (by simp)).cell 6
      have x7 : ∀ X : Later [] W, X.w.cell? ⟨wr.heap.size, 7, none⟩ = some (.slice x.B x.l.length x.d) := fun X => (HBX.out.only X.h (by simp)).cell 7
      have hwd : IntKind.i64.wrap ((deep : Int) + 1) = ((deep + 1 : Nat) : Int) := by rw [wrap_small _ (by omega) (by omega)]; omega
      clear a0 a1 a2 a3 a4 a5 a6 a7
      refine region_seg [true, true, true, true, true, false, false, true, true, true, true] 6 (by kernel_rfl) (by kernel_rfl) (by kernel_rfl) rfl (fun _ _ d _ _ h => by cases d <;> exact h) ?_
      repeat (first | with_reducible refine wpMask_pass ?_ | (refine wpMask_want (by rfl) (fun K hK => ?_); go_big_quiet_op; refine hK _ ?_; clear hK K))
      with_reducible refine wpMask_nil ?_
      clear x6 x7 hwd
      refine region_call 5 (by kernel_rfl) rfl (by rfl) (by go_simp; exact ⟨rfl, rfl⟩) ?_
      refine (HMX.out W HBW.out).1.mono ?_
      rintro e w1 ⟨n1, hn1, he1, rfl, hb⟩
      refine ⟨_, rfl, Only.of_below (S := []) hb (fun _ hk _ => hk), ?_⟩
      have HB1 := Lib.hid (HBW.out.trans hb)
      have HE1 := Lib.hid he1
      clear hb he1
      simp only [List.getElem_toArray, List.getElem_cons_zero, List.getElem_cons_succ, Act.put, List.setIfInBounds_toArray, List.set_cons_zero, List.set_cons_succ]
      refine region_seg [false, false, false, false, false, false, true] 4 (by kernel_rfl) (by kernel_rfl) (by kernel_rfl) rfl (fun _ _ d _ _ h => by cases d <;> exact h) ?_
      repeat (first | with_reducible refine wpMask_pass ?_ | (refine wpMask_want (by rfl) (fun K hK => ?_); go_big_quiet_op; refine hK _ ?_; clear hK K))
      with_reducible refine wpMask_nil ?_
      refine region_call 11 (by kernel_rfl) rfl (by rfl) (by go_simp; exact ⟨rfl, rfl⟩) ?_
      refine (HMX.out w1 HB1.out).2.mono ?_
      rintro e w2 ⟨n2, hn2, he2, rfl, hb⟩
      refine ⟨_, rfl, Only.of_below (S := []) hb (fun _ hk _ => hk), ?_⟩
      have HB2 := Lib.hid (HB1.out.trans hb)
      have HE2 := Lib.hid he2
      clear hb he2
      simp only [List.getElem_toArray, List.getElem_cons_zero, List.getElem_cons_succ, Act.put, List.setIfInBounds_toArray, List.set_cons_zero, List.set_cons_succ]
      refine region_seg [false, false, false, false, false, false, false, false, false, false, false, false, true, true, true] 0 (by kernel_rfl) (by kernel_rfl) (by kernel_rfl) rfl (fun _ _ d _ _ h => by cases d <;> exact h) ?_
      repeat (first | with_reducible refine wpMask_pass ?_ | (refine wpMask_want (by rfl) (fun K hK => ?_); go_big_quiet_op; refine hK _ ?_; clear hK K))
      with_reducible refine wpMask_nil ?_
      refine region_end (by kernel_rfl) ?_
      by_cases hbig : 10000 < q + (1 + n1 + n2)
      · have i1 : (10000 : Int) < (q : Int) + (1 + (n1 : Int) + (n2 : Int)) := by omega
        go_wp2_with fail
        go_ret
        exact ⟨10001, by omega, by omega, rfl, HB2.out⟩
      · have i1 : ¬ (10000 : Int) < (q : Int) + (1 + (n1 : Int) + (n2 : Int)) := by omega
        have HSM : Hid (q + (1 + n1 + n2) = tots (l.take (k + 1))) := Lib.hid (by have := HE1.out (by omega); have := HE2.out (by omega); have := HST.out; omega)
        go_wp2_with fail
        go_roundw
        case rel => exact ⟨k + 1, q + (1 + n1 + n2), by omega, by omega, by go_num, by go_num, HSM, HB2⟩
        case measure => simp [intOf]; omega
    · obtain rfl : k = n := by omega
      have HE : Hid (q = tots l) := Lib.hid (by rw [HQ.out, HN.out, List.take_length])
      go_wp2_with fail
      go_ret
      exact ⟨q, by omega, fun _ => HE.out, rfl, HBR.out⟩
theorem weight_all (x : NT) : WtM x := by
  refine NT.ind (M := WtM) (fun t h1 h2 => ?_) x
  intro w deep hd ht
  exact ⟨weight_row t.b h1 _ _ deep w hd ht.body, weight_row t.l h2 _ _ deep w hd ht.els⟩
set_option maxRecDepth 100000 in
theorem tooLarge12_c {l : List NT} {A : Option Addr} {c : Nat} {w : World} (hA : Row w (Lt w) A c l) :
    Calls Tryd.prog 13 #[.slice A l.length c] w fun e w' => ∃ r : Nat, r ≤ 1 ∧ (r = 0 → tots l ≤ 2000) ∧ e = .returned (.int .i64 r) ∧ Bel w w' := by
  have HW := Lib.hid (weight_row l (fun x _ => weight_all x) A c 0 w (by omega) hA)
  clear hA
  go_enter Tryd.func13, Tryd.ntmps13
  go_wp2_with (go_at_call 25; refine (HW.out).mono ?_; rintro e w1 ⟨n, hn, he, rfl, hb⟩; have HE := Lib.hid he; have HB := Lib.hid hb; clear he hb)
  · go_ret
    exact ⟨1, by omega, by omega, rfl, HB.out⟩
  · go_ret
    exact ⟨0, by omega, fun _ => by have := HE.out (by omega); omega, rfl, HB.out⟩
end Go.Proofs.YtgbppdgpengcoaaDoor
