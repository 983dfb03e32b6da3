/-
  Contracts: Provider.pull, Provider.Pulls.
-/
import Derived.Test.YtollcekcmnokaaaNew10B
namespace Go.Proofs.Ytollcekcmnokaaa
open Go.RowKit Go.BigFrame
set_option linter.unusedVariables false
set_option linter.unusedSimpArgs false

theorem set7w {w : World} {g : Nat} {T : TypeId} {a0 a1 a2 a3 a4 a5 a6 : Value} (h : Blk w g T [a0, a1, a2, a3, a4, a5, a6]) (v0 v1 v2 v3 v4 v5 v6 : Value) :
    Blk (((((((w.setCell ⟨g, 0, none⟩ v0).setCell ⟨g, 1, none⟩ v1).setCell ⟨g, 2, none⟩ v2).setCell ⟨g, 3, none⟩ v3).setCell ⟨g, 4, none⟩ v4).setCell ⟨g, 5, none⟩ v5).setCell ⟨g, 6, none⟩ v6) g T [v0, v1, v2, v3, v4, v5, v6] :=
  ((((((h.set_ 0 v0).set_ 1 v1).set_ 2 v2).set_ 3 v3).set_ 4 v4).set_ 5 v5).set_ 6 v6
theorem only7w (w : World) (g : Nat) (v0 v1 v2 v3 v4 v5 v6 : Value) :
    Only [g] w (((((((w.setCell ⟨g, 0, none⟩ v0).setCell ⟨g, 1, none⟩ v1).setCell ⟨g, 2, none⟩ v2).setCell ⟨g, 3, none⟩ v3).setCell ⟨g, 4, none⟩ v4).setCell ⟨g, 5, none⟩ v5).setCell ⟨g, 6, none⟩ v6) :=
  (((((((Only.refl [g] w).setCell (.inl (by simp)) _).setCell (.inl (by simp)) _).setCell (.inl (by simp)) _).setCell (.inl (by simp)) _).setCell (.inl (by simp)) _).setCell (.inl (by simp)) _).setCell (.inl (by simp)) _
/-- A result's cells. -/
def rcs (p : VT × Int) : List Value := [.int .i64 p.1.k, .string p.1.s, .int .i64 p.1.n, .bool p.1.b, .slice p.1.A p.1.xs.length p.1.c, .slice p.1.F p.1.vs.length p.1.d, .int .i64 p.2]
theorem done7r {f : Func} (hf : f.results = #[.cell 4 52]) {tmps : Array Value} {g : Nat} {p : VT × Int} {W : World} (hp : tmps.getD 4 undef = .pointer (some ⟨g, 0, none⟩))
    (hB : Blk W g 52 (rcs p)) : (results f tmps).run Try.prog W = .ok (resV p) W := by
  have hp' : tmps[4]?.getD undef = .pointer (some ⟨g, 0, none⟩) := by simpa using hp
  have hl := run_loadVar_row W g 52 (rcs p).toArray (0, 0) _ (P := Try.prog) (ty := 52) hB Try.underlying52 rfl (by kernel_rfl)
  simp [results, hf, hp', asAddr, hl]
  rfl

set_option maxRecDepth 100000 in
set_option maxHeartbeats 1600000 in
theorem pull_c {t : VT} {fail ps : List ByteArray} {r bf bl br nf nl lo hi : Nat} {A : Option Addr} {c : Nat} {l : List (ByteArray × VT)} {w : World} (h : PrAt t fail ps r bf bl br nf nl lo hi A c l w) (name : ByteArray) (hs : name.size ≤ maxLen) :
    Calls Try.prog 17 #[.pointer (some ⟨r, 0, none⟩), .string name] w fun e w' => e = .returned (resV (resT (flOf l name) (hasB fail name))) ∧ Bel w w' := by
  have hr := h.head.lt
  have p0 : ∀ o, (w.alloc o).cell? ⟨r, 0, none⟩ = some (.map (some bf)) := fun o => (h.head.alloc o).cell 0
  have p1 : ∀ o, (w.alloc o).cell? ⟨r, 1, none⟩ = some (.map (some bl)) := fun o => (h.head.alloc o).cell 1
  have HML := Lib.hid (fun o => h.ml.alloc o)
  have HMF := Lib.hid (fun o => h.mf.alloc o)
  have HS := Lib.hid hs
  clear h hs
  cases hb : hasB fail name with
  | true =>
    have HV : Hid ((if hasB fail name = true then some (Value.bool true) else none).getD (.bool false) = .bool true) := Lib.hid (by rw [hb]; rfl)
    clear hb
    go_enter Try.func17, Try.ntmps17
    go_wp2_with (at_lookup; refine wp_look rfl _ _ 55 rfl 4 Try.underlying55 (.bool false) zeroBool bl nl _ rfl (HML.out _) name rfl HS.out (.bool true) HV.out ?_)
    refine bodyPost_ret (done7r (p := (VT.zero, 20)) rfl rfl (Blk.new w 52 (rcs (VT.zero, 20)))) rfl ⟨rfl, Bel.alloc _ _⟩
  | false =>
    have HV : Hid ((if hasB fail name = true then some (Value.bool true) else none).getD (.bool false) = .bool false) := Lib.hid (by rw [hb]; rfl)
    clear hb
    cases hf : flOf l name with
    | none =>
      have HF1 : Hid (((flOf l name).map VT.val).getD VT.zero.val = .agg #[.int .i64 0, .string ByteArray.empty, .int .i64 0, .bool false, .slice none 0 0, .slice none 0 0]) := Lib.hid (by rw [hf]; rfl)
      have HF2 : Hid (((flOf l name).map VT.val).isSome = false) := Lib.hid (by rw [hf]; rfl)
      clear hf
      go_enter Try.func17, Try.ntmps17
      go_wp2_with (first | (at_lookup; refine wp_look rfl _ _ 55 rfl 4 Try.underlying55 (.bool false) zeroBool bl nl _ rfl (HML.out _) name rfl HS.out (.bool false) HV.out ?_) | (at_lookup; refine wp_look_ok rfl _ _ 54 rfl 27 Try.underlying54 VT.zero.val zeroVal bf nf _ rfl (HMF.out _) name rfl HS.out (.agg #[.int .i64 0, .string ByteArray.empty, .int .i64 0, .bool false, .slice none 0 0, .slice none 0 0]) false HF1.out HF2.out ?_))
      refine bodyPost_ret (done7r (p := (VT.zero, 17)) rfl rfl ((Blk.new w 52 (rcs (VT.zero, 17))).alloc _)) rfl ⟨rfl, (Bel.alloc _ _).trans (Bel.alloc _ _)⟩
    | some u =>
      have HF1 : Hid (((flOf l name).map VT.val).getD VT.zero.val = .agg #[.int .i64 u.k, .string u.s, .int .i64 u.n, .bool u.b, .slice u.A u.xs.length u.c, .slice u.F u.vs.length u.d]) := Lib.hid (by rw [hf]; rfl)
      have HF2 : Hid (((flOf l name).map VT.val).isSome = true) := Lib.hid (by rw [hf]; rfl)
      clear hf
      go_enter Try.func17, Try.ntmps17
      go_wp2_with (first | (at_lookup; refine wp_look rfl _ _ 55 rfl 4 Try.underlying55 (.bool false) zeroBool bl nl _ rfl (HML.out _) name rfl HS.out (.bool false) HV.out ?_) | (at_lookup; refine wp_look_ok rfl _ _ 54 rfl 27 Try.underlying54 VT.zero.val zeroVal bf nf _ rfl (HMF.out _) name rfl HS.out (.agg #[.int .i64 u.k, .string u.s, .int .i64 u.n, .bool u.b, .slice u.A u.xs.length u.c, .slice u.F u.vs.length u.d]) true HF1.out HF2.out ?_))
      refine bodyPost_ret (done7r (p := (u, 0)) rfl rfl ((Blk.new w 52 (rcs (u, 0))).alloc _)) rfl ⟨rfl, (Bel.alloc _ _).trans (Bel.alloc _ _)⟩

set_option maxHeartbeats 400000 in
theorem pulls_nil (w : World) : Calls Try.prog 7 #[.pointer none] w fun e w' => e = .returned (.slice none 0 0) ∧ w = w' := by
  go_enter Try.func7, Try.ntmps7
  go_wp2
  go_ret
  exact ⟨rfl, rfl⟩
set_option maxHeartbeats 400000 in
theorem pulls_c {t : VT} {fail ps : List ByteArray} {r : Nat} {T : List Nat} {w : World} (h : Pr t fail r ps w T) (hn : ps.length * 16 ≤ 140737488351232) :
    Calls Try.prog 7 #[.pointer (some ⟨r, 0, none⟩)] w (ClS 9 1 fS ps w) := by
  obtain ⟨bf, bl, br, nf, nl, lo, hi, A, c, l, h, rfl⟩ := h
  have p3 : w.cell? ⟨r, 3, none⟩ = some (.slice A ps.length c) := h.head.cell 3
  have HC := Lib.hid (cloneS_c A c ps w h.row.src hn)
  clear h hn
  go_enter Try.func7, Try.ntmps7
  go_wp2_with (go_at_call 19; refine HC.out.mono ?_; rintro e w1 ⟨G, d, rfl, hr⟩; have HR := Lib.hid hr; clear hr)
  go_ret
  exact ⟨G, d, rfl, HR.out⟩
set_option maxHeartbeats 400000 in
theorem get_nil (w : World) (name : ByteArray) : Calls Try.prog 6 #[.pointer none, .string name] w fun e w' => e = .returned (.tuple #[VT.zero.val, .int .i64 1]) ∧ Bel w w' := by
  go_enter Try.func6, Try.ntmps6
  go_wp2_with fail
  refine bodyPost_ret (done2 (u := VT.zero) rfl rfl rfl (Blk.new w 27 VT.zero.cs)) rfl ⟨rfl, Bel.alloc _ _⟩
end Go.Proofs.Ytollcekcmnokaaa
