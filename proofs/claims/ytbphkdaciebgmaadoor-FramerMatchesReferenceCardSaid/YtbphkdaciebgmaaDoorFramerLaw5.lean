/-
  The law FramerMatchesReference, walked.
-/
import Derived.Test.YtbphkdaciebgmaaDoorFramerPair
import Derived.Test.YtbphkdaciebgmaaDoorOpen
import Derived.Deep.DeepCutAuto
import Derived.Deep.CutBlock
namespace Go.Proofs.YtbphkdaciebgmaaDoor
open Go.RowKit Go.BigFrame
set_option linter.unusedVariables false
set_option linter.unusedSimpArgs false
attribute [local go_sem ↓] sliced_cut run_min2 run_max2
attribute [local go_sem] cutA_zero

/-! ### Both as one thing -/
def Both (P Q : World → List Nat → Prop) : World → List Nat → Prop := fun w V => ∃ T U, V = T ++ U ∧ P w T ∧ Q w U ∧ ∀ k, k ∈ T → k ∉ U
section
variable {P P' Q : World → List Nat → Prop} {w0 w w' : World} {B : Nat}
theorem both_thing (hP : IsThing P) (hQ : IsThing Q) : IsThing (Both P Q) :=
  ⟨fun ⟨T, U, hV, h1, h2, hd⟩ ho hS => ⟨T, U, hV, hP.only h1 ho (fun k hk => hS k (by rw [hV]; simp [hk])), hQ.only h2 ho (fun k hk => hS k (by rw [hV]; simp [hk])), hd⟩,
   fun ⟨T, U, hV, h1, h2, hd⟩ k hk => by rw [hV] at hk; rcases List.mem_append.1 hk with h | h; exact hP.lt h1 k h; exact hQ.lt h2 k h⟩
theorem Both.swap {V : List Nat} (h : Both P Q w V) : ∃ V', Both Q P w V' ∧ ∀ k, k ∈ V' ↔ k ∈ V := by
  obtain ⟨T, U, rfl, h1, h2, hd⟩ := h
  exact ⟨U ++ T, ⟨U, T, rfl, h2, h1, fun k hk hk' => hd k hk' hk⟩, fun k => by simp [or_comm]⟩
theorem both_call1 {p : Program} {f : FuncId} {args : Array Value} {x : Ending} {V : List Nat} (h : Both P Q w V) (hQ : IsThing Q)
    (hc : ∀ T, P w T → Calls p f args w fun e w' => e = x ∧ Turned P' w T w') : Calls p f args w fun e w' => e = x ∧ Turned (Both P' Q) w V w' := by
  obtain ⟨T, U, rfl, h1, h2, hd⟩ := h
  refine (hc T h1).mono ?_
  rintro e w' ⟨rfl, T', h1', hk, hO⟩
  refine ⟨rfl, T' ++ U, ⟨T', U, rfl, h1', hQ.only h2 hO (fun k hk hk' => hd k hk' hk), fun k hk1 hk2 => ?_⟩, fun k hk1 => ?_, hO.more (fun k hk => by simp [hk])⟩
  · rcases hk k hk1 with h | h
    · exact hd k h hk2
    · have := hQ.lt h2 k hk2; omega
  · rcases List.mem_append.1 hk1 with h | h
    · exact (hk k h).imp (fun h => by simp [h]) id
    · exact .inl (by simp [h])
theorem both_call2 {p : Program} {f : FuncId} {args : Array Value} {x : Ending} {V : List Nat} (h : Both Q P w V) (hQ : IsThing Q)
    (hc : ∀ T, P w T → Calls p f args w fun e w' => e = x ∧ Turned P' w T w') : Calls p f args w fun e w' => e = x ∧ Turned (Both Q P') w V w' := by
  obtain ⟨V', h', hV⟩ := h.swap
  refine (both_call1 h' hQ hc).mono ?_
  rintro e w' ⟨rfl, V1, h1, hk, hO⟩
  obtain ⟨V2, h2, hV2⟩ := h1.swap
  exact ⟨rfl, V2, h2, fun k hk' => (hk k ((hV2 k).1 hk')).imp (fun h => (hV k).1 h) id, hO.more (fun k hk => (hV k).1 hk)⟩
theorem Pair.both (h : Pair P Q w0 B w) : ∃ V, Both P Q w V ∧ ∀ k, k ∈ V → B ≤ k := by
  obtain ⟨T, U, h1, h2, hd, hT, hU, hb, hB, hB2⟩ := h
  exact ⟨T ++ U, ⟨T, U, rfl, h1, h2, hd⟩, fun k hk => (List.mem_append.1 hk).elim (hT k) (hU k)⟩
theorem pair_of_both {V V' : List Nat} (h : Both P Q w' V') (hV : ∀ k, k ∈ V → B ≤ k) (hk : ∀ k, k ∈ V' → k ∈ V ∨ w.heap.size ≤ k) (hO : Only V w w') (hb : Below w0.heap.size w0 w) (hB : w0.heap.size ≤ B) (hB2 : B ≤ w.heap.size) : Pair P Q w0 B w' := by
  obtain ⟨T, U, rfl, h1, h2, hd⟩ := h
  have hlo : ∀ k, k ∈ T ++ U → B ≤ k := fun k h => (hk k h).elim (hV k) (fun h => Nat.le_trans hB2 h)
  exact ⟨T, U, h1, h2, hd, fun k h => hlo k (by simp [h]), fun k h => hlo k (by simp [h]), Only.below hb hO hb.size (fun k h => Nat.le_trans hB (hV k h)), hB, Nat.le_trans hB2 hO.size⟩
theorem Pair.base (h : Pair P Q w0 B w) : w0.heap.size ≤ B ∧ B ≤ w.heap.size := by obtain ⟨T, U, h1, h2, hd, hT, hU, hb, hB, hB2⟩ := h; exact ⟨hB, hB2⟩
end

/-! ### most -/
theorem mostN (n : Int) : ∃ N : Nat, wrap64 (1 + wrap64 ((IntKind.u64.wrap n).tmod 65536)) = (N : Int) ∧ 1 ≤ N ∧ N ≤ 65536 := by
  have h0 : 0 ≤ IntKind.u64.wrap n := by unfold IntKind.wrap; simp [IntKind.bits, IntKind.signed]; omega
  rw [Int.tmod_eq_emod_of_nonneg h0]
  have h1 := Int.emod_nonneg (IntKind.u64.wrap n) (show (65536 : Int) ≠ 0 by omega)
  have h2 := Int.emod_lt_of_pos (IntKind.u64.wrap n) (show (0 : Int) < 65536 by omega)
  rw [IntWalk.wrap64_in ((IntKind.u64.wrap n) % 65536) (by omega), IntWalk.wrap64_in _ (by omega)]
  exact ⟨(1 + (IntKind.u64.wrap n) % 65536).toNat, by omega, by omega, by omega⟩
set_option maxHeartbeats 400000 in
theorem most_any (n : Int) : ∃ N : Nat, 1 ≤ N ∧ N ≤ 65536 ∧ ∀ w : World, Calls Tryd.prog 16 #[.int .i64 n] w fun e w' => e = .returned (.int .i64 (N : Int)) ∧ w = w' := by
  obtain ⟨N, hN, h1, h2⟩ := mostN n
  refine ⟨N, h1, h2, fun w => ?_⟩
  have HN := Lib.hid hN
  clear hN
  go_enter Tryd.func16, Tryd.ntmps16
  go_wp2
  go_ret
  refine ⟨?_, rfl⟩
  rw [← HN.out]
  rfl

/-- What the law reads of the reference. -/
def RefShows (w : World) (r : Nat) (s : FSt) (A : Option Addr) (n c : Nat) : Prop := ∀ w', Only [] w w' →
  w'.cell? ⟨r, 1, none⟩ = some (.slice A n c) ∧ w'.cell? ⟨r, 2, none⟩ = some (.bool s.fin) ∧ (convert 26 9 (.slice A n c)).run Tryd.prog w' = .ok (.string ⟨s.pend.toArray⟩) w'
theorem ref_shows {P : World → List Nat → Prop} {t : TypeId} {w0 w : World} {B r : Nat} {s : FSt} (h : Pair P (Fr t r s) w0 B w) (n : Nat) (hn : n = s.pend.length) : ∃ A c, RefShows w r s A n c := by
  obtain ⟨U, ⟨A, c, hf⟩, _⟩ := h.second
  subst hn
  refine ⟨A, c, fun w' hO => ?_⟩
  have hb := hf.head.only hO (by simp)
  exact ⟨hb.cell 1, hb.cell 2, row_str hf.row w' hO⟩

set_option maxRecDepth 100000 in
set_option maxHeartbeats 8000000 in
theorem matches_walk (n : Int) (X : Option Addr) (len cap : Nat) (acts : List ActV) (w : World) (hT : Tz w) (_ : (Lit.int .i64 n).wf = true) (h : len ≤ cap ∧ cap ≤ maxLen ∧ ActsAt w w.heap.size X len acts) :
    Calls Tryd.prog 3 #[.int .i64 n, .slice X len cap] w fun e w' => e = .returned (.bool true) ∧ Below w.heap.size w w' := by
  obtain ⟨hlc, hcm, hacts⟩ := h
  have kc := fun (w : World) (C : Array Value) (n c : Nat) => Lib.run_convert_bytes_const (P := Tryd.prog) w 26 5 C n c Tryd.underlying26 Tryd.underlying5
  obtain ⟨N, hN1, hN2, hcap⟩ := most_any n
  have HT := Lib.hid hT
  have HA := Lib.hid hacts
  have hlm := hcm
  unfold maxLen at hlm
  have HCAP := Lib.hid hcap
  clear hT hacts hcap hcm
  go_enter Tryd.func3, Tryd.ntmps3
  go_wp2_with (first | (go_at_call 9; refine (start_nil _ _).mono ?_; rintro e w' ⟨rfl, rfl⟩) | (go_at_call 10; refine (finish_nil _).mono ?_; rintro e w' ⟨rfl, rfl⟩) | (go_at_call 11; refine (advance_nil _ _).mono ?_; rintro e w' ⟨rfl, rfl⟩) | (go_at_call 12; refine (pending_nil _).mono ?_; rintro e w' ⟨rfl, rfl⟩) | (go_at_call 13; refine (done_nil _).mono ?_; rintro e w' ⟨rfl, rfl⟩))
  have hO0 : Only [] w (w.alloc (.cells #[.int .u8 97] 5 (1, 2))) := (Only.refl [] w).alloc _
  generalize (w.alloc (.cells #[.int .u8 97] 5 (1, 2))) = W0 at hO0 ⊢
  go_loopw [6, 43] (fun s6 si wr => ∃ (i : Nat) (t : Int), i ≤ len ∧ si = .int .i64 i ∧ s6 = .int .i64 t ∧ Hid (Only [] w wr)) (fun _ si _ => len - (intOf si).toNat)
  case atStart => exact ⟨0, 0, Nat.zero_le _, rfl, rfl, Lib.hid hO0⟩
  case round =>
    clear hO0
    obtain ⟨i, t, hik, rfl, rfl, hO⟩ := hrel
    by_cases hlt : i < len
    · obtain ⟨g, o, rfl, hg, hcell⟩ := (HA.out.below (only_nil_trans hO.out)).2.1 (by omega)
      have hkl : i < acts.length := by rw [HA.out.1]; exact hlt
      obtain ⟨c1, c2, c3⟩ := hcell i acts[i] (List.getElem?_eq_getElem hkl)
      generalize acts[i] = av at c1 c2 c3
      obtain ⟨ak, A, m, ca, b, an⟩ := av
      simp only at c1 c2 c3
      clear hcell hkl
      go_wp2_with fail
      go_roundw
      case rel => exact ⟨i + 1, _, by omega, by go_num, rfl, Lib.hid (hO.out.alloc _)⟩
      case measure => simp [intOf]; omega
    · obtain rfl : len = i := by omega
      have h3 : decide ((200 : Int) < (len : Int)) = true ∨ (decide ((200 : Int) < (len : Int)) = false ∧ 20000 < t) ∨ (decide ((200 : Int) < (len : Int)) = false ∧ ¬ 20000 < t) := by
        by_cases h1 : (200 : Int) < (len : Int)
        · exact .inl (by simpa using h1)
        · by_cases h2 : 20000 < t
          · exact .inr (.inl ⟨by simpa using h1, h2⟩)
          · exact .inr (.inr ⟨by simpa using h1, h2⟩)
      rcases h3 with h1 | ⟨h1, h2⟩ | ⟨h1, h2⟩
      · go_wp2_with (go_at_call 14; refine (alive_c (HT.out.only hO.out)).mono ?_; rintro e w2 ⟨rfl, hO2⟩)
        go_ret
        exact ⟨rfl, only_nil_trans (hO.out.trans hO2)⟩
      · go_wp2_with (go_at_call 14; refine (alive_c (HT.out.only hO.out)).mono ?_; rintro e w2 ⟨rfl, hO2⟩)
        go_ret
        exact ⟨rfl, only_nil_trans (hO.out.trans hO2)⟩
      · have HB0 := Lib.hid (only_nil_trans hO.out)
        go_wp2_with (first | (go_at_call 16; refine (HCAP.out _).mono ?_; rintro e w' ⟨rfl, rfl⟩) | (go_at_call 15; refine (new_c _ hN1 hN2).mono ?_; rintro e w2 ⟨rfl, hF2, hO2⟩; have HF2 := Lib.hid hF2; have HO2 := Lib.hid hO2; clear hF2 hO2))
        have hpair : Pair (Fr 52 wr.heap.size ⟨N, [], false⟩) (Fr 38 w2.heap.size ⟨N, [], false⟩) w wr.heap.size (w2.alloc (.cells #[.int .i64 N, .slice none 0 0, .bool false] 38)) :=
          pair_made (fr_thing _ _ _) HF2.out (by simp) (U := [w2.heap.size]) ⟨none, 0, Blk.new w2 38 [.int .i64 N, .slice none 0 0, .bool false], RowAt.nil _ _, by simp, by simp [rowT], by simp, ⟨hN1, hN2⟩, by simp, by decide⟩ (by simp) HB0.out HO2.out ((Only.refl [] w2).alloc _)
        clear HF2 HO2 HB0 hO hlt hik h1 h2
        generalize wr.heap.size = B at hpair ⊢
        generalize (w2.alloc (.cells #[.int .i64 N, .slice none 0 0, .bool false] 38)) = W3 at hpair ⊢
        generalize w2.heap.size = r2 at hpair ⊢
        go_loopw [79] (fun si wr => ∃ (i : Nat) (s : FSt), i ≤ len ∧ si = .int .i64 i ∧ Hid (Pair (Fr 52 B s) (Fr 38 r2 s) w B wr)) (fun si _ => len - (intOf si).toNat)
        case atStart => exact ⟨0, _, Nat.zero_le _, rfl, Lib.hid hpair⟩
        case round =>
          clear hpair
          obtain ⟨i, s, hik, rfl, hI⟩ := hrel
          by_cases hlt : i < len
          case neg =>
            go_wp2_with (go_at_call 14; refine (alive_c (HT.out.below hI.out.below (Nat.le_refl _))).mono ?_; rintro e w2 ⟨rfl, hO2⟩)
            go_ret
            exact ⟨rfl, Only.below hI.out.below hO2 hI.out.below.size (by simp)⟩
          obtain ⟨g, o, rfl, hg, hcell⟩ := (HA.out.below hI.out.below).2.1 (by omega)
          have hkl : i < acts.length := by rw [HA.out.1]; exact hlt
          obtain ⟨c1, c2, c3⟩ := hcell i acts[i] (List.getElem?_eq_getElem hkl)
          have hdat := HA.out.2.2 acts[i] (List.getElem_mem hkl)
          generalize acts[i] = av at c1 c2 c3 hdat
          obtain ⟨ak, A, m, ca, b, an⟩ := av
          simp only at c1 c2 c3 hdat
          have HDAT := Lib.hid hdat
          clear hcell hkl hdat
          have h3 : ak = 0 ∨ ak = 1 ∨ (ak ≠ 0 ∧ ak ≠ 1) := by omega
          go_upto_block 4 with fail
          go_cut [14, 15] from 85 to 108 (fun s14 s15 wx => ∃ (e0 : Nat) (s' : FSt), s14 = .int .i64 e0 ∧ s15 = .int .i64 e0 ∧ Hid (Pair (Fr 52 B s') (Fr 38 r2 s') w B wx))
          case first =>
           rcases h3 with hk0 | hk0 | ⟨hk0, hk1'⟩
           · 
            obtain ⟨⟨e0, s'⟩, hst⟩ : ∃ p, startS s b = p := ⟨_, rfl⟩
            have HST := Lib.hid hst
            clear hst
            subst hk0
            go_wp2_with fail
            have hIW := hI.out.quiet (fr_thing _ _ _) (fr_thing _ _ _) (((Only.refl [] wr).alloc (.cells #[.int .i64 0, .slice A m ca, .int .i64 an] 32)).drew)
            have hq : Blk (wr.alloc (.cells #[.int .i64 0, .slice A m ca, .int .i64 an] 32)).drew wr.heap.size 32 [.int .i64 0, .slice A m ca, .int .i64 an] := Blk.new wr 32 [.int .i64 0, .slice A m ca, .int .i64 an]
            obtain ⟨V, hV, hVB⟩ := hI.out.both
            have hVlt := (both_thing (fr_thing _ _ _) (fr_thing _ _ _)).lt hV
            have hV2 := (both_thing (fr_thing _ _ _) (fr_thing _ _ _)).only hV (((Only.refl [] wr).alloc (.cells #[.int .i64 0, .slice A m ca, .int .i64 an] 32)).drew) (by simp)
            obtain ⟨hB1, hB2⟩ := hIW.base
            have hbW := hIW.below
            refine region_begin (T := V) (by kernel_rfl) ?_
            generalize (wr.alloc (.cells #[.int .i64 0, .slice A m ca, .int .i64 an] 32)).drew = W at hq hV2 hB2 hbW ⊢
            have s1 : ∀ y : Later V W, y.w.cell? ⟨wr.heap.size, 1, none⟩ = some (.slice A m ca) := fun y => (hq.only y.h (fun hm => by have := hVlt _ hm; omega)).cell 1
            clear hIW hV
            refine region_seg [true, true, true, false, true, true, true] 4 (by kernel_rfl) (by kernel_rfl) (by kernel_rfl) rfl (fun _ _ d _ _ h => by cases d <;> exact h) ?_
            repeat (first | with_reducible refine wpMask_pass ?_ | (refine wpMask_want (by rfl) (fun K hK => ?_); go_big_quiet_op; refine hK _ ?_; clear hK K) | refine wpMask_skip (by rfl) ?_)
            with_reducible refine wpMask_nil ?_
            clear s1
            refine region_turn 3 (by kernel_rfl) rfl (by rfl) (by go_simp) (both_call1 hV2 (fr_thing _ _ _) fun T hF => start_c hF (HT.out.below hbW (Nat.le_refl _)) ((HDAT.out.2.2.2.1.below hbW).more hbW.size) HDAT.out.2.1 HDAT.out.2.2.1 e0 s' HST.out) ?_
            intro W1 V1 hV1 hk1 hO1
            simp only [List.getElem_toArray, List.getElem_cons_zero, List.getElem_cons_succ, Act.put, List.setIfInBounds_toArray, List.set_cons_zero, List.set_cons_succ]
            have hbW1 := Lib.hid (Only.below hbW hO1 hbW.size (fun j hj => Nat.le_trans hB1 (hVB j hj)))
            refine region_turn 7 (by kernel_rfl) rfl (by rfl) (by go_simp) (both_call2 hV1 (fr_thing _ _ _) fun T hF => refStart_c hF (HDAT.out.2.2.2.1.below hbW1.out) hbW1.out.size HDAT.out.2.1 HDAT.out.2.2.1 e0 s' HST.out) ?_
            intro W2 V2 hV2' hk2 hO2
            simp only [List.getElem_toArray, List.getElem_cons_zero, List.getElem_cons_succ, Act.put, List.setIfInBounds_toArray, List.set_cons_zero, List.set_cons_succ]
            refine region_seg [false, false, false, false, false, false, false, false, true, true] 0 (by kernel_rfl) (by kernel_rfl) (by kernel_rfl) rfl (fun _ _ d _ _ h => by cases d <;> exact h) ?_
            repeat (first | with_reducible refine wpMask_pass ?_ | (refine wpMask_want (by rfl) (fun K hK => ?_); go_big_quiet_op; refine hK _ ?_; clear hK K) | refine wpMask_skip (by rfl) ?_)
            with_reducible refine wpMask_nil ?_
            refine region_end (by kernel_rfl) ?_
            have hk12 : ∀ j, j ∈ V2 → j ∈ V ∨ W.heap.size ≤ j := fun j hj => (hk2 j hj).elim (fun h => hk1 j h) (fun h => .inr (Nat.le_trans hO1.size h))
            have hP2 := Lib.hid (pair_of_both hV2' hVB hk12 (hO1.join hO2 hk1) hbW hB1 hB2)
            clear hV2' hk12 hk1 hk2 hO1 hO2 hV1 hbW1 hV2 hq hbW hB1 hB2 hVB hVlt hI
            go_wp2_with fail
            go_meet
            exact ⟨e0, s', rfl, rfl, hP2⟩
           · 
            obtain ⟨⟨e0, s'⟩, hst⟩ : ∃ p, finishS s = p := ⟨_, rfl⟩
            have HST := Lib.hid hst
            clear hst
            subst hk0
            go_wp2_with fail
            have hIW := hI.out.quiet (fr_thing _ _ _) (fr_thing _ _ _) ((Only.refl [] wr).alloc (.cells #[.int .i64 1, .slice A m ca, .int .i64 an] 32))
            refine (finish_pair (fr_thing _ _ _) hIW HT.out e0 s' HST.out).mono ?_
            rintro e W1 ⟨rfl, hP1⟩
            have HP1 := Lib.hid hP1
            clear hP1 hIW hI
            go_wp2_with fail
            refine (pair_call2 HP1.out (fr_thing _ _ _) fun T hF _ => refFinish_c hF e0 s' HST.out).mono ?_
            rintro e W2 ⟨rfl, hP2⟩
            have hP2 := Lib.hid hP2
            clear HP1
            go_wp2_with fail
            go_meet
            exact ⟨e0, s', rfl, rfl, hP2⟩
           · 
            obtain ⟨⟨e0, s'⟩, hst⟩ : ∃ p, advS s an = p := ⟨_, rfl⟩
            have HST := Lib.hid hst
            clear hst
            have hk00 : (ak == 0) = false := by simpa using hk0
            have hk11 : (ak == 1) = false := by simpa using hk1'
            go_wp2_with fail
            have hIW := hI.out.quiet (fr_thing _ _ _) (fr_thing _ _ _) (((Only.refl [] wr).alloc (.cells #[.int .i64 ak, .slice A m ca, .int .i64 an] 32)).drew)
            have hq : Blk (wr.alloc (.cells #[.int .i64 ak, .slice A m ca, .int .i64 an] 32)).drew wr.heap.size 32 [.int .i64 ak, .slice A m ca, .int .i64 an] := Blk.new wr 32 [.int .i64 ak, .slice A m ca, .int .i64 an]
            obtain ⟨V, hV, hVB⟩ := hI.out.both
            have hVlt := (both_thing (fr_thing _ _ _) (fr_thing _ _ _)).lt hV
            have hV2 := (both_thing (fr_thing _ _ _) (fr_thing _ _ _)).only hV (((Only.refl [] wr).alloc (.cells #[.int .i64 ak, .slice A m ca, .int .i64 an] 32)).drew) (by simp)
            obtain ⟨hB1, hB2⟩ := hIW.base
            have hbW := hIW.below
            refine region_begin (T := V) (by kernel_rfl) ?_
            generalize (wr.alloc (.cells #[.int .i64 ak, .slice A m ca, .int .i64 an] 32)).drew = W at hq hV2 hB2 hbW ⊢
            have s1 : ∀ y : Later V W, y.w.cell? ⟨wr.heap.size, 2, none⟩ = some (.int .i64 an) := fun y => (hq.only y.h (fun hm => by have := hVlt _ hm; omega)).cell 2
            clear hIW hV
            refine region_seg [true, true, true, false, true, true, true] 4 (by kernel_rfl) (by kernel_rfl) (by kernel_rfl) rfl (fun _ _ d _ _ h => by cases d <;> exact h) ?_
            repeat (first | with_reducible refine wpMask_pass ?_ | (refine wpMask_want (by rfl) (fun K hK => ?_); go_big_quiet_op; refine hK _ ?_; clear hK K) | refine wpMask_skip (by rfl) ?_)
            with_reducible refine wpMask_nil ?_
            clear s1
            refine region_turn 3 (by kernel_rfl) rfl (by rfl) (by go_simp) (both_call1 hV2 (fr_thing _ _ _) fun T hF => advance_c hF an e0 s' HST.out) ?_
            intro W1 V1 hV1 hk1 hO1
            simp only [List.getElem_toArray, List.getElem_cons_zero, List.getElem_cons_succ, Act.put, List.setIfInBounds_toArray, List.set_cons_zero, List.set_cons_succ]
            have hbW1 := Lib.hid (Only.below hbW hO1 hbW.size (fun j hj => Nat.le_trans hB1 (hVB j hj)))
            refine region_turn 7 (by kernel_rfl) rfl (by rfl) (by go_simp) (both_call2 hV1 (fr_thing _ _ _) fun T hF => refAdvance_c hF an e0 s' HST.out) ?_
            intro W2 V2 hV2' hk2 hO2
            simp only [List.getElem_toArray, List.getElem_cons_zero, List.getElem_cons_succ, Act.put, List.setIfInBounds_toArray, List.set_cons_zero, List.set_cons_succ]
            refine region_seg [false, false, false, false, false, false, false, false, true, true] 0 (by kernel_rfl) (by kernel_rfl) (by kernel_rfl) rfl (fun _ _ d _ _ h => by cases d <;> exact h) ?_
            repeat (first | with_reducible refine wpMask_pass ?_ | (refine wpMask_want (by rfl) (fun K hK => ?_); go_big_quiet_op; refine hK _ ?_; clear hK K) | refine wpMask_skip (by rfl) ?_)
            with_reducible refine wpMask_nil ?_
            refine region_end (by kernel_rfl) ?_
            have hk12 : ∀ j, j ∈ V2 → j ∈ V ∨ W.heap.size ≤ j := fun j hj => (hk2 j hj).elim (fun h => hk1 j h) (fun h => .inr (Nat.le_trans hO1.size h))
            have hP2 := Lib.hid (pair_of_both hV2' hVB hk12 (hO1.join hO2 hk1) hbW hB1 hB2)
            clear hV2' hk12 hk1 hk2 hO1 hO2 hV1 hbW1 hV2 hq hbW hB1 hB2 hVB hVlt hI
            go_wp2_with fail
            go_meet
            exact ⟨e0, s', rfl, rfl, hP2⟩
          case rest =>
            clear h3 c1 c2 c3 hI HDAT
            obtain ⟨e0, s', rfl, rfl, hP2⟩ := hcut
            go_wp2_with fail
            obtain ⟨L, hL⟩ : ∃ L, L = s'.pend.length := ⟨_, rfl⟩
            cases hfin : s'.fin
            case' false =>
              have hdn : Hid (false = s'.done) := Lib.hid (by unfold FSt.done; rw [hfin]; rfl)
              obtain ⟨dv, hdv⟩ : ∃ dv : Bool, dv = false := ⟨_, rfl⟩
              have HDV : Hid (dv = s'.done) := Lib.hid (by rw [hdv]; exact hdn.out)
              have hdd : Hid (dv = false) := Lib.hid hdv
            case' true =>
              have hdn : Hid (((L : Int) == 0) = s'.done) := Lib.hid (by unfold FSt.done; rw [hfin, ← hL, Bool.true_and, Bool.eq_iff_iff, beq_iff_eq, beq_iff_eq]; omega)
              obtain ⟨dv, hdv⟩ : ∃ dv : Bool, dv = ((L : Int) == 0) := ⟨_, rfl⟩
              have HDV : Hid (dv = s'.done) := Lib.hid (by rw [hdv]; exact hdn.out)
              have hdd : Hid (dv = ((L : Int) == 0)) := Lib.hid hdv
            case false =>
              clear hdn hdv
              have HFIN := Lib.hid hfin
              have HLL := Lib.hid hL
              have HW := Lib.hid (hP2.out.quiet (fr_thing _ _ _) (fr_thing _ _ _) ((Only.refl [] wc).drew))
              clear hfin hL hP2
              refine region_begin (T := []) (by kernel_rfl) ?_
              generalize wc.drew = V at HW ⊢
              obtain ⟨rA, rc, hsh⟩ := ref_shows HW.out L HLL.out
              have hsh2 := hsh
              unfold RefShows at hsh
              rw [HFIN.out] at hsh
              have HSH := Lib.hid hsh
              clear hsh hsh2
              have t1 := fun x : Later [] V => (HSH.out x.w x.h).1
              have t3 := fun x : Later [] V => (HSH.out x.w x.h).2.2
              refine region_seg [true, true, true, true, true, false, false, true, true, true, true, true] 21 (by kernel_rfl) (by kernel_rfl) (by kernel_rfl) rfl (fun _ _ d _ _ h => by cases d <;> exact h) ?_
              repeat (first | with_reducible refine wpMask_pass ?_ | (refine wpMask_want (by rfl) (fun K hK => ?_); go_big_quiet_op; refine hK _ ?_; clear hK K) | refine wpMask_skip (by rfl) ?_)
              with_reducible refine wpMask_nil ?_
              clear t1 t3
              refine region_call 5 (by kernel_rfl) rfl (by rfl) (by go_simp; exact ⟨rfl, rfl⟩) ?_
              refine (pend_pair HW.out L HLL.out).mono ?_
              rintro e V1 ⟨G, gd, rfl, hG, hGk, hO1⟩
              refine ⟨_, rfl, hO1, ?_⟩
              simp only [List.getElem_toArray, List.getElem_cons_zero, List.getElem_cons_succ, Act.put, List.setIfInBounds_toArray, List.set_cons_zero, List.set_cons_succ]
              have hs3 : ∀ y : Later [] V1, (convert 26 9 (.slice G L gd)).run Tryd.prog y.w = .ok (.string ⟨s'.pend.toArray⟩) y.w := fun y => row_str hG y.w y.h
              have HO1 := Lib.hid hO1
              clear hG hGk hO1
              have t2 := fun x : Later [] V1 => (HSH.out x.w (HO1.out.trans x.h)).2.1
              refine region_seg [false, false, false, false, false, false, true, false, false, false, false, false, true, true, true, true, false, true, true, true, true] 11 (by kernel_rfl) (by kernel_rfl) (by kernel_rfl) rfl (fun _ _ d _ _ h => by cases d <;> exact h) ?_
              repeat (first | with_reducible refine wpMask_pass ?_ | (refine wpMask_want (by rfl) (fun K hK => ?_); go_big_quiet_op; refine hK _ ?_; clear hK K) | refine wpMask_skip (by rfl) ?_)
              with_reducible refine wpMask_nil ?_
              clear hs3 t2
              have HW1 := Lib.hid (HW.out.quiet (fr_thing _ _ _) (fr_thing _ _ _) HO1.out)
              refine region_call 16 (by kernel_rfl) rfl (by rfl) (by go_simp; exact ⟨rfl, rfl⟩) ?_
              refine (done_pair HW1.out dv HDV.out).mono ?_
              rintro e _ ⟨rfl, rfl⟩
              refine ⟨_, rfl, Only.refl _ _, ?_⟩
              simp only [List.getElem_toArray, List.getElem_cons_zero, List.getElem_cons_succ, Act.put, List.setIfInBounds_toArray, List.set_cons_zero, List.set_cons_succ]
              have t1 := fun x : Later [] V1 => (HSH.out x.w (HO1.out.trans x.h)).1
              rw [hdd.out]
              refine region_seg [false, false, false, false, false, false, false, false, false, false, false, false, false, false, false, false, false, false, false, false, false, true, true, true, true, true, true, true, true, true, true] 0 (by kernel_rfl) (by kernel_rfl) (by kernel_rfl) rfl (fun _ _ d _ _ h => by cases d <;> exact h) ?_
              repeat (with_reducible refine wpMask_pass ?_)
              (with_reducible refine wpMask_want (by kernel_rfl) (fun K hK => ?_)); (go_big_quiet_op; refine hK _ ?_; clear hK K)
              iterate 6 (with_reducible refine wpMask_skip (by kernel_rfl) ?_)
              simp only [Act.put, List.setIfInBounds_toArray, List.set_cons_zero, List.set_cons_succ]
              (with_reducible refine wpMask_want (by kernel_rfl) (fun K hK => ?_)); (go_big_quiet_op; refine hK _ ?_; clear hK K)
              (with_reducible refine wpMask_want (by kernel_rfl) (fun K hK => ?_)); (go_big_quiet_op; refine hK _ ?_; clear hK K)
              (with_reducible refine wpMask_want (by kernel_rfl) (fun K hK => ?_)); (go_big_quiet_op; refine hK _ ?_; clear hK K)
              with_reducible refine wpMask_nil ?_
              clear t1
              refine region_end (by kernel_rfl) ?_
              go_wp2_with fail
              go_roundw
              case rel => exact ⟨i + 1, s', by omega, by go_num, HW1⟩
              case measure => simp [intOf]; omega
            case true =>
              clear hdn hdv
              have HFIN := Lib.hid hfin
              have HLL := Lib.hid hL
              have HW := Lib.hid (hP2.out.quiet (fr_thing _ _ _) (fr_thing _ _ _) ((Only.refl [] wc).drew))
              clear hfin hL hP2
              refine region_begin (T := []) (by kernel_rfl) ?_
              generalize wc.drew = V at HW ⊢
              obtain ⟨rA, rc, hsh⟩ := ref_shows HW.out L HLL.out
              have hsh2 := hsh
              unfold RefShows at hsh
              rw [HFIN.out] at hsh
              have HSH := Lib.hid hsh
              clear hsh hsh2
              have t1 := fun x : Later [] V => (HSH.out x.w x.h).1
              have t3 := fun x : Later [] V => (HSH.out x.w x.h).2.2
              refine region_seg [true, true, true, true, true, false, false, true, true, true, true, true] 21 (by kernel_rfl) (by kernel_rfl) (by kernel_rfl) rfl (fun _ _ d _ _ h => by cases d <;> exact h) ?_
              repeat (first | with_reducible refine wpMask_pass ?_ | (refine wpMask_want (by rfl) (fun K hK => ?_); go_big_quiet_op; refine hK _ ?_; clear hK K) | refine wpMask_skip (by rfl) ?_)
              with_reducible refine wpMask_nil ?_
              clear t1 t3
              refine region_call 5 (by kernel_rfl) rfl (by rfl) (by go_simp; exact ⟨rfl, rfl⟩) ?_
              refine (pend_pair HW.out L HLL.out).mono ?_
              rintro e V1 ⟨G, gd, rfl, hG, hGk, hO1⟩
              refine ⟨_, rfl, hO1, ?_⟩
              simp only [List.getElem_toArray, List.getElem_cons_zero, List.getElem_cons_succ, Act.put, List.setIfInBounds_toArray, List.set_cons_zero, List.set_cons_succ]
              have hs3 : ∀ y : Later [] V1, (convert 26 9 (.slice G L gd)).run Tryd.prog y.w = .ok (.string ⟨s'.pend.toArray⟩) y.w := fun y => row_str hG y.w y.h
              have HO1 := Lib.hid hO1
              clear hG hGk hO1
              have t2 := fun x : Later [] V1 => (HSH.out x.w (HO1.out.trans x.h)).2.1
              refine region_seg [false, false, false, false, false, false, true, false, false, false, false, false, true, true, true, true, false, true, true, true, true] 11 (by kernel_rfl) (by kernel_rfl) (by kernel_rfl) rfl (fun _ _ d _ _ h => by cases d <;> exact h) ?_
              repeat (first | with_reducible refine wpMask_pass ?_ | (refine wpMask_want (by rfl) (fun K hK => ?_); go_big_quiet_op; refine hK _ ?_; clear hK K) | refine wpMask_skip (by rfl) ?_)
              with_reducible refine wpMask_nil ?_
              clear hs3 t2
              have HW1 := Lib.hid (HW.out.quiet (fr_thing _ _ _) (fr_thing _ _ _) HO1.out)
              refine region_call 16 (by kernel_rfl) rfl (by rfl) (by go_simp; exact ⟨rfl, rfl⟩) ?_
              refine (done_pair HW1.out dv HDV.out).mono ?_
              rintro e _ ⟨rfl, rfl⟩
              refine ⟨_, rfl, Only.refl _ _, ?_⟩
              simp only [List.getElem_toArray, List.getElem_cons_zero, List.getElem_cons_succ, Act.put, List.setIfInBounds_toArray, List.set_cons_zero, List.set_cons_succ]
              have t1 := fun x : Later [] V1 => (HSH.out x.w (HO1.out.trans x.h)).1
              rw [hdd.out]
              refine region_seg [false, false, false, false, false, false, false, false, false, false, false, false, false, false, false, false, false, false, false, false, false, true, true, true, true, true, true, true, true, true, true] 0 (by kernel_rfl) (by kernel_rfl) (by kernel_rfl) rfl (fun _ _ d _ _ h => by cases d <;> exact h) ?_
              repeat (first | with_reducible refine wpMask_pass ?_ | (refine wpMask_want (by rfl) (fun K hK => ?_); go_big_quiet_op; refine hK _ ?_; clear hK K) | refine wpMask_skip (by rfl) ?_)
              with_reducible refine wpMask_nil ?_
              clear t1
              refine region_end (by kernel_rfl) ?_
              go_wp2_with fail
              go_roundw
              case rel => exact ⟨i + 1, s', by omega, by go_num, HW1⟩
              case measure => simp [intOf]; omega
end Go.Proofs.YtbphkdaciebgmaaDoor
