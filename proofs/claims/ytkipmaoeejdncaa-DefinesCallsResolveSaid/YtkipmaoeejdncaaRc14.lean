/-
  Contracts: the reference's Find and Calls of layer 14.
-/
import Derived.Test.YtkipmaoeejdncaaLa11
import Derived.Test.YtkipmaoeejdncaaNm
import Derived.Test.YtkipmaoeejdncaaKRow
import Derived.Test.YtkipmaoeejdncaaDn14
namespace Go.Proofs.Ytkipmaoeejdncaa
open Go.RowKit Go.BigFrame NT
set_option linter.unusedVariables false
set_option linter.unusedSimpArgs false

/-- The zero node. -/
def ZN : NT := .mk 0 0 ByteArray.empty ByteArray.empty false false none 0 [] none 0 []
abbrev nVal (k a : Int) (s p : ByteArray) (h e : Bool) (A : Option Addr) (n c : Nat) (B : Option Addr) (m d : Nat) : Value := .agg #[.int .i64 k, .int .i64 a, .string s, .string p, .bool h, .bool e, .slice A n c, .slice B m d]
def NT.vv (t : NT) : Value := nVal t.k t.a t.s t.p t.h t.e t.A t.b.length t.c t.B t.l.length t.d
/-- What the reference's Find answers: the node as it lies. -/
def RfP (l : List NT) (nm : ByteArray) (w : World) (e : Ending) (w' : World) : Prop := Bel w w' ∧ ((∃ d, findN l nm = some d ∧ e = .returned (.tuple #[d.vv, .bool true])) ∨ (findN l nm = none ∧ e = .returned (.tuple #[ZN.vv, .bool false])))
theorem findN_take {l : List NT} {nm : ByteArray} {i : Nat} {x : NT} (h : findN (l.take i) nm = none) (hx : l[i]? = some x) : (isDefOf nm x = true → findN l nm = some x) ∧ (isDefOf nm x = false → findN (l.take (i + 1)) nm = none) := by
  have hl : l = l.take i ++ x :: l.drop (i + 1) := by
    have hi := (List.getElem?_eq_some_iff.1 hx).1
    rw [List.getElem?_eq_getElem hi] at hx
    injection hx with hx
    conv => lhs; rw [← List.take_append_drop i l, List.drop_eq_getElem_cons hi, hx]
  constructor
  · intro hd
    unfold findN at h ⊢
    rw [hl, List.find?_append, h, Option.none_or, List.find?_cons, hd]
  · intro hd
    rw [NT.take_step hx]
    unfold findN at h ⊢
    rw [List.find?_append, h, Option.none_or, List.find?_cons, hd]
    rfl
theorem isDefOf_eq (nm : ByteArray) (t : NT) : isDefOf nm t = ((t.k == 6) && decide (t.s = nm)) := rfl
theorem toL_beq14 (a b : ByteArray) : (a.toList == b.toList) = decide (a = b) := by
  rw [ByteArray.toList_eq, ByteArray.toList_eq, Bool.eq_iff_iff, beq_iff_eq, decide_eq_true_iff]
  exact ⟨fun h => toL_inj h, fun h => by rw [h]⟩
theorem only8_14 (W : World) (g : Nat) (a0 a1 a2 a3 a4 a5 a6 a7 : Value) : Only [g] W ((((((((W.setCell ⟨g, 0, none⟩ a0).setCell ⟨g, 1, none⟩ a1).setCell ⟨g, 2, none⟩ a2).setCell ⟨g, 3, none⟩ a3).setCell ⟨g, 4, none⟩ a4).setCell ⟨g, 5, none⟩ a5).setCell ⟨g, 6, none⟩ a6).setCell ⟨g, 7, none⟩ a7) :=
  (((((((((Only.refl [g] W).setCell (.inl (by simp)) _).setCell (.inl (by simp)) _).setCell (.inl (by simp)) _).setCell (.inl (by simp)) _).setCell (.inl (by simp)) _).setCell (.inl (by simp)) _).setCell (.inl (by simp)) _).setCell (.inl (by simp)) _)
theorem results_row_tmp14 {P : Program} {fn : Func} {p u : Tmp} {ty : TypeId} (h : fn.results = #[.cell p ty, .tmp u]) (tmps : Array Value) (w : World) (g : Nat) (t : TypeId) (cs : Array Value) (fr : Nat × Nat) (d : TypeDesc)
    (hp : tmps.getD p undef = .pointer (some ⟨g, 0, none⟩)) (hg : w.heap[g]? = some (.cells cs t fr)) (hu : P.underlying ty = some d) (hd : (match d with | .struct _ | .array _ _ => true | _ => false) = true) (hi : (P.info? ty).map (·.size) = some cs.size) :
    (results fn tmps).run P w = .ok (.tuple #[.agg cs, tmps.getD u undef]) w := by
  rw [results_cell_tmp h, hp]
  simp only [asAddr, Sem.run_pure, Result.andThen_ok, run_loadVar_row w g t ty cs fr d hg hu hd hi]
set_option maxRecDepth 100000 in
set_option maxHeartbeats 3200000 in
theorem rfind_c {l : List NT} {A : Option Addr} {c : Nat} {w : World} (hA : Row w (Lt w) A c l) (nm : ByteArray) : Calls Try.prog 7 #[.slice A l.length c, .string nm] w (RfP l nm w) := by
  have hn5 := hA.len
  obtain ⟨n, hn⟩ : ∃ n, n = l.length := ⟨_, rfl⟩
  rw [← hn] at hn5 ⊢
  have HA := Lib.hid hA
  have HN := Lib.hid hn
  clear hA hn
  have HB0 := Lib.hid (Bel.alloc w (.cells #[.int .i64 0, .int .i64 0, .string ⟨#[]⟩, .string ⟨#[]⟩, .bool false, .bool false, .slice none 0 0, .slice none 0 0] 25))
  have HZ := Lib.hid (Blk.new w 25 [.int .i64 0, .int .i64 0, .string ⟨#[]⟩, .string ⟨#[]⟩, .bool false, .bool false, .slice none 0 0, .slice none 0 0])
  go_enter Try.func7, Try.ntmps7
  go_wp2_with fail
  generalize w.alloc (.cells #[.int .i64 0, .int .i64 0, .string ⟨#[]⟩, .string ⟨#[]⟩, .bool false, .bool false, .slice none 0 0, .slice none 0 0] 25) = W at HB0 HZ ⊢
  go_loopw [6] (fun s6 wr => ∃ i : Nat, i ≤ n ∧ s6 = .int .i64 i ∧ Hid (findN (l.take i) nm = none) ∧ Hid (wr = W)) (fun s6 _ => n - (intOf s6).toNat)
  case atStart => exact ⟨0, Nat.zero_le _, rfl, Lib.hid rfl, Lib.hid rfl⟩
  case round =>
    obtain ⟨i, hi, rfl, HF, HW⟩ := hrel
    obtain rfl := HW.out
    by_cases hlt : i < n
    · obtain ⟨x, hx⟩ : ∃ x, l[i]? = some x := ⟨_, List.getElem?_eq_getElem (by have := HN.out; omega)⟩
      obtain ⟨g, o, hAA, hg, ha⟩ := HA.out.cells hx
      subst hAA
      obtain ⟨a0, a1, a2, a3, a4, a5, a6, a7⟩ := ha wr HB0.out
      have HX := Lib.hid (findN_take HF.out hx)
      clear hx ha
      by_cases hk : x.k = 6
      · have k6 : (x.k == 6) = true := by rw [hk]; rfl
        by_cases hs : x.s = nm
        · have hs6 : (x.s.toList == nm.toList) = true := by rw [toL_beq14]; simpa using hs
          have HR := Lib.hid (HX.out.1 (by rw [isDefOf_eq, k6, hs]; simp))
          obtain ⟨z0, z1, z2, z3, z4, z5, z6, z7⟩ := cells8 HZ.out
          have f0 := HZ.out.free 0
          have f1 := HZ.out.free 1
          have f2 := HZ.out.free 2
          have f3 := HZ.out.free 3
          have f4 := HZ.out.free 4
          have f5 := HZ.out.free 5
          have f6 := HZ.out.free 6
          have f7 := HZ.out.free 7
          clear hk hs
          go_wp2_with fail
          have hb8 := (((((((HZ.out.set_ 0 (.int .i64 x.k)).set_ 1 (.int .i64 x.a)).set_ 2 (.string x.s)).set_ 3 (.string x.p)).set_ 4 (.bool x.h)).set_ 5 (.bool x.e)).set_ 6 (.slice x.A x.b.length x.c)).set_ 7 (.slice x.B x.l.length x.d)
          simp only [List.set_cons_succ, List.set_cons_zero] at hb8
          refine bodyPost_ret (results_row_tmp14 rfl _ _ w.heap.size _ _ (0, 0) _ rfl hb8 Try.underlying25 rfl (by kernel_rfl)) rfl ?_
          refine ⟨?_, .inl ⟨x, HR.out, rfl⟩⟩
          exact bel_on1 HB0.out (only8_14 _ _ _ _ _ _ _ _ _ _) (Nat.le_refl _)
        · have hs6 : (x.s.toList == nm.toList) = false := by rw [toL_beq14]; simpa using hs
          have HR := Lib.hid (HX.out.2 (by rw [isDefOf_eq]; simp [hs]))
          clear hk hs
          go_wp2_with fail
          go_roundw
          case rel => exact ⟨i + 1, by omega, by go_num, HR, Lib.hid trivial⟩
          case measure => simp [intOf]; omega
      · have k6 : (x.k == 6) = false := by simpa using hk
        have HR := Lib.hid (HX.out.2 (by rw [isDefOf_eq, k6]; rfl))
        clear hk
        go_wp2_with fail
        go_roundw
        case rel => exact ⟨i + 1, by omega, by go_num, HR, Lib.hid trivial⟩
        case measure => simp [intOf]; omega
    · obtain rfl : i = n := by omega
      have HR := Lib.hid (show findN l nm = none by have h := HF.out; rwa [HN.out, List.take_length] at h)
      obtain ⟨z0, z1, z2, z3, z4, z5, z6, z7⟩ := cells8 HZ.out
      have f0 := HZ.out.free 0
      have f1 := HZ.out.free 1
      have f2 := HZ.out.free 2
      have f3 := HZ.out.free 3
      have f4 := HZ.out.free 4
      have f5 := HZ.out.free 5
      have f6 := HZ.out.free 6
      have f7 := HZ.out.free 7
      go_wp2_with fail
      have hb8 := (((((((HZ.out.set_ 0 (.int .i64 0)).set_ 1 (.int .i64 0)).set_ 2 (.string ⟨#[]⟩)).set_ 3 (.string ⟨#[]⟩)).set_ 4 (.bool false)).set_ 5 (.bool false)).set_ 6 (.slice none 0 0)).set_ 7 (.slice none 0 0)
      simp only [List.set_cons_succ, List.set_cons_zero] at hb8
      refine bodyPost_ret (results_row_tmp14 rfl _ _ w.heap.size _ _ (0, 0) _ rfl hb8 Try.underlying25 rfl (by kernel_rfl)) rfl ?_
      refine ⟨?_, .inr ⟨HR.out, rfl⟩⟩
      exact bel_on1 HB0.out (only8_14 _ _ _ _ _ _ _ _ _ _) (Nat.le_refl _)
end Go.Proofs.Ytkipmaoeejdncaa
