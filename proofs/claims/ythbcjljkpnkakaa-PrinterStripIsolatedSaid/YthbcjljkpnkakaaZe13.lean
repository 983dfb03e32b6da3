/-
  Contract: the law's zero, where all offsets are zero.
-/
import Derived.Test.YthbcjljkpnkakaaNm
import Derived.Test.YthbcjljkpnkakaaPz13
import Derived.Test.YthbcjljkpnkakaaRegion2
import Derived.Test.YthbcjljkpnkakaaLa11
namespace Go.Proofs.Ythbcjljkpnkakaa
open Go.RowKit Go.BigFrame NT
set_option linter.unusedVariables false
set_option linter.unusedSimpArgs false

abbrev ZeC (w : World) (A : Option Addr) (n c : Nat) : Prop := Calls Try.prog 12 #[.slice A n c] w fun e w' => e = .returned (.int .i64 0) ∧ Bel w w'
def ZeM (x : NT) : Prop := ∀ (w : World), x.In w (Lt w) → (∀ a ∈ pre x, a = 0) → ZeC w x.A x.b.length x.c ∧ ZeC w x.B x.l.length x.d
theorem pre_mem {l : List NT} {x : NT} (h : x ∈ l) {a : Int} (ha : a ∈ pre x) : a ∈ pres l := by
  induction l with
  | nil => cases h
  | cons y l ih =>
    rw [pres_cons]
    rcases List.mem_cons.1 h with rfl | h
    · exact List.mem_append.2 (.inl ha)
    · exact List.mem_append.2 (.inr (ih h))
set_option maxRecDepth 100000 in
set_option maxHeartbeats 3200000 in
theorem zero_row (l : List NT) (ih : ∀ x ∈ l, ZeM x) (A : Option Addr) (c : Nat) (w : World) (hA : Row w (Lt w) A c l) (hz : ∀ a ∈ pres l, a = 0) : ZeC w A l.length c := by
  obtain ⟨n, hn⟩ : ∃ n, n = l.length := ⟨_, rfl⟩
  have hn5 := hA.len
  rw [← hn] at hn5 ⊢
  have HA := Lib.hid hA
  have HI := Lib.hid ih
  have HN := Lib.hid hn
  have HZ := Lib.hid hz
  clear hA ih hn hz
  go_enter Try.func12, Try.ntmps12
  go_wp2_with fail
  go_loopw [3, 8] (fun s3 s8 wr => ∃ k : Nat, k ≤ n ∧ s3 = .int .i64 0 ∧ s8 = .int .i64 k ∧ Hid (Bel w wr)) (fun s3 s8 _ => n - (intOf s8).toNat)
  case atStart => exact ⟨0, Nat.zero_le _, rfl, rfl, Lib.hid (Bel.refl _)⟩
  case round =>
    obtain ⟨k, hk, rfl, rfl, HBR⟩ := hrel
    by_cases hlt : k < n
    · have hxt := List.getElem?_eq_getElem (l := l) (i := k) (by have := HN.out; omega)
      generalize l[k]'(by have := HN.out; omega) = x at hxt
      have hxm := List.mem_of_getElem? hxt
      obtain ⟨g, o, hAA, hg, ha⟩ := HA.out.cells hxt
      subst hAA
      have HXI := Lib.hid (HA.out.2 x hxm)
      have hx0 : x.a = 0 := HZ.out _ (pre_mem hxm (by rw [pre_eq]; simp))
      have HMX := Lib.hid (fun W (hb : Bel w W) => HI.out x hxm W (HXI.out.bel hb) (fun a h => HZ.out a (pre_mem hxm h)))
      obtain ⟨a0, a1, a2, a3, a4, a5, a6, a7⟩ := ha wr HBR.out
      rw [hx0] at a1
      clear hxt hxm hg ha hx0
      go_wp2_with fail
      have HBX := Lib.hid (Blk.new wr 33 [.int .i64 x.k, .int .i64 0, .string x.s, .string x.p, .bool x.h, .bool x.e, .slice x.A x.b.length x.c, .slice x.B x.l.length x.d])
      have HB0 := Lib.hid (HBR.out.trans (Bel.alloc wr (.cells #[.int .i64 x.k, .int .i64 0, .string x.s, .string x.p, .bool x.h, .bool x.e, .slice x.A x.b.length x.c, .slice x.B x.l.length x.d] 33)))
      refine region_begin (T := []) (by kernel_rfl) ?_
      have HBW := Lib.hid HBX.out.drew
      have HW := Lib.hid (HB0.out.trans (Bel.drew _))
      clear a0 a1 a2 a3 a4 a5 a6 a7 HBX HB0
      generalize (wr.alloc (.cells #[.int .i64 x.k, .int .i64 0, .string x.s, .string x.p, .bool x.h, .bool x.e, .slice x.A x.b.length x.c, .slice x.B x.l.length x.d] 33)).drew = W at HBW HW ⊢
      have p6 : ∀ X : Later [] W, X.w.cell? ⟨wr.heap.size, 6, none⟩ = some (.slice x.A x.b.length x.c) := fun X => (HBW.out.only X.h (by simp)).cell 6
      have p7 : ∀ X : Later [] W, X.w.cell? ⟨wr.heap.size, 7, none⟩ = some (.slice x.B x.l.length x.d) := fun X => (HBW.out.only X.h (by simp)).cell 7
      refine region_seg [true, true, true, false, true, true] 5 (by kernel_rfl) (by kernel_rfl) (by kernel_rfl) rfl (fun _ _ d _ _ h => by cases d <;> exact h) ?_
      repeat (first | with_reducible refine wpMask_pass ?_ | (refine wpMask_want (by rfl) (fun K hK => ?_); go_big_quiet_op; refine hK _ ?_; clear hK K))
      with_reducible refine wpMask_nil ?_
      clear p6 p7
      refine region_call 3 (by kernel_rfl) rfl (by rfl) (by go_simp; exact ⟨rfl, rfl⟩) ?_
      refine ((HMX.out _ HW.out).1).mono ?_
      rintro e w1 ⟨rfl, hb1⟩
      refine ⟨_, rfl, bel_only hb1, ?_⟩
      have HW1 := Lib.hid (HW.out.trans hb1)
      clear hb1
      simp only [List.getElem_toArray, List.getElem_cons_zero, List.getElem_cons_succ, Act.put, List.setIfInBounds_toArray, List.set_cons_zero, List.set_cons_succ]
      refine region_call 6 (by kernel_rfl) rfl (by rfl) (by go_simp; exact ⟨rfl, rfl⟩) ?_
      refine ((HMX.out _ HW1.out).2).mono ?_
      rintro e w2 ⟨rfl, hb2⟩
      refine ⟨_, rfl, bel_only hb2, ?_⟩
      have HW2 := Lib.hid (HW1.out.trans hb2)
      clear hb2
      simp only [List.getElem_toArray, List.getElem_cons_zero, List.getElem_cons_succ, Act.put, List.setIfInBounds_toArray, List.set_cons_zero, List.set_cons_succ]
      refine region_seg [false, false, false, false, false, false, false, true, true, true] 0 (by kernel_rfl) (by kernel_rfl) (by kernel_rfl) rfl (fun _ _ d _ _ h => by cases d <;> exact h) ?_
      repeat (first | with_reducible refine wpMask_pass ?_ | (refine wpMask_want (by rfl) (fun K hK => ?_); go_big_quiet_op; refine hK _ ?_; clear hK K))
      with_reducible refine wpMask_nil ?_
      refine region_end (by kernel_rfl) ?_
      go_wp2_with fail
      go_roundw
      case rel => exact ⟨k + 1, by omega, by go_num, by go_num, HW2⟩
      case measure => simp [intOf]; omega
    · obtain rfl : k = n := by omega
      go_wp2_with fail
      go_ret
      exact ⟨rfl, HBR.out⟩
theorem zero_all (x : NT) : ZeM x := by
  refine NT.ind (M := ZeM) (fun t h1 h2 => ?_) x
  intro w ht hz
  rw [pre_eq] at hz
  exact ⟨zero_row t.b h1 _ _ w ht.body (fun a ha => hz a (by simp [ha])), zero_row t.l h2 _ _ w ht.els (fun a ha => hz a (by simp [ha]))⟩
theorem zero_c {l : List NT} {A : Option Addr} {c : Nat} {w : World} (hA : Row w (Lt w) A c l) (hz : ∀ a ∈ pres l, a = 0) :
    Calls Try.prog 12 #[.slice A l.length c] w fun e w' => e = .returned (.int .i64 0) ∧ Bel w w' := zero_row l (fun x _ => zero_all x) A c w hA hz
end Go.Proofs.Ythbcjljkpnkakaa
