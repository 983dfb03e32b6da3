/-
  The law RingMatchesReference, walked.
-/
import Derived.Test.YtjlmmibokppkgaaRef1Put
namespace Go.Proofs.Ytjlmmibokppkgaa
open Go.RowKit Go.BigFrame
set_option linter.unusedVariables false
set_option linter.unusedSimpArgs false
attribute [local go_sem ↓] sliced_cut run_min2 run_max2
attribute [local go_sem] cutA_zero

theorem RefAt.alloc {w : World} {lo mr N : Nat} {c : List UInt8} (h : RefAt w lo mr N c) (o : Obj) : RefAt (w.alloc o) lo mr N c := h.only ((Only.refl [] w).alloc o) (by simp) (by simp)

/-- What holds at the head of the law's loop. -/
structure MatchInv (w : World) (r bb mr N : Nat) (wr : World) (c : List UInt8) : Prop where
  ring : RingOf wr r bb N c
  ref : RefAt wr mr mr N c
  below : Below w.heap.size w wr
  size : mr < wr.heap.size

theorem MatchInv.only {w : World} {r bb mr N : Nat} {wr W : World} {c : List UInt8} (h : MatchInv w r bb mr N wr c) (k : Only [] wr W) : MatchInv w r bb mr N W c :=
  ⟨h.ring.only k (by simp) (by simp), h.ref.only k (by simp) (by simp), Only.below h.below k h.below.size (by simp), Nat.lt_of_lt_of_le h.size k.size⟩

set_option maxRecDepth 100000 in
set_option maxHeartbeats 4000000 in
theorem match_walk (n : Int) (X : Option Addr) (len cap : Nat) (acts : List ActV) (w : World) (hacts : ActsAt w w.heap.size X len acts) (hlc : len ≤ cap) (hcm : cap ≤ maxLen) :
    Calls Try.prog 3 #[.int .i64 n, .slice X len cap] w fun e w' => e = .returned (.bool true) ∧ Below w.heap.size w w' := by
  have kc := fun (w : World) (C : Array Value) (n c : Nat) => Lib.run_convert_bytes_const (P := Try.prog) w 25 5 C n c Try.underlying25 Try.underlying5
  obtain ⟨N, hN1, hN2, hcap⟩ := capacity_any n
  go_enter Try.func3, Try.ntmps3
  go_wp2_with (first
    | (go_at_call 9; refine (nil_put _ _).mono ?_; rintro e w' ⟨rfl, rfl⟩)
    | (go_at_call 10; refine (nil_peek _ _).mono ?_; rintro e w' ⟨rfl, rfl⟩)
    | (go_at_call 11; refine (nil_consume _ _).mono ?_; rintro e w' ⟨rfl, rfl⟩)
    | (go_at_call 12; refine (nil_len _).mono ?_; rintro e w' ⟨rfl, rfl⟩)
    | (go_at_call 13; refine (nil_free _).mono ?_; rintro e w' ⟨rfl, rfl⟩)
    | (go_at_call 14; refine (nil_cap _).mono ?_; rintro e w' ⟨rfl, rfl⟩))
  have hO0 : Only [] w (w.alloc (.cells #[.int .u8 97] 5 (1, 2))) := (Only.refl [] w).alloc _
  generalize (w.alloc (.cells #[.int .u8 97] 5 (1, 2))) = W0 at hO0 ⊢
  refine (tooLarge_any (hacts.below (only_nil_below hO0)) hO0.size hlc hcm).mono ?_
  rintro e w1 ⟨v, rfl, hO1⟩
  have hO01 := hO0.trans hO1
  clear hO0 hO1 W0
  have hlm := hcm
  unfold maxLen at hlm
  cases v
  case true =>
    go_wp2_with (go_at_call 16; refine (alive_any _).mono ?_; rintro e w2 ⟨rfl, hO2⟩)
    go_ret
    exact ⟨rfl, only_nil_below (hO01.trans hO2)⟩
  case false =>
    go_wp2_with (first | (go_at_call 18; refine (hcap _).mono ?_; rintro e w' ⟨rfl, rfl⟩))
    refine (new_c (N : Int) N rfl hN1 hN2 _).mono ?_
    rintro e w2 ⟨r, bb, rfl, hr, hbb, hR2, hO2⟩
    have hO02 := hO01.trans hO2
    have hrlt := hR2.lt
    have hsz1 := hO01.size
    have hsz2 := hO2.size
    clear hO01 hO2
    go_wp2_with (first | (go_at_call 18; refine (hcap _).mono ?_; rintro e w' ⟨rfl, rfl⟩))
    have hinv : MatchInv w r bb w2.heap.size N (w2.alloc (.cells #[.slice none 0 0, .int .i64 N] 37)) [] := by
      refine ⟨hR2.alloc _, ⟨none, 0, Blk.new w2 37 [.slice none 0 0, .int .i64 N], Nat.le_refl _, Nat.zero_le _, Reads.none_, fun h0 => absurd h0 (by simp)⟩, (only_nil_below hO02).alloc hO02.size _, by simp⟩
    clear hR2 hO02
    generalize w2.heap.size = mr at hinv hrlt hsz2 ⊢
    generalize (w2.alloc (.cells #[.slice none 0 0, .int .i64 N] 37)) = W3 at hinv ⊢
    obtain ⟨hrlt, hblt⟩ := hrlt
    go_loopw [63] (fun i wr => ∃ (k : Nat) (c : List UInt8), k ≤ len ∧ i = .int .i64 k ∧ MatchInv w r bb mr N wr c) (fun i _ => len - (intOf i).toNat)
    case atStart => exact ⟨0, [], Nat.zero_le _, rfl, hinv⟩
    case round =>
      clear hinv
      obtain ⟨k, c, hk, rfl, hI⟩ := hrel
      by_cases hlt : k < len
      · obtain ⟨g, o, rfl, hg, hcell⟩ := (hacts.below hI.below).2.1 (by omega)
        have hkl : k < acts.length := by rw [hacts.1]; exact hlt
        obtain ⟨c1, c2, c3⟩ := hcell k acts[k] (List.getElem?_eq_getElem hkl)
        have hdat := hacts.2.2 acts[k] (List.getElem_mem hkl)
        generalize acts[k] = av at c1 c2 c3 hdat
        obtain ⟨ak, A, m, ca, b, an⟩ := av
        simp only at c1 c2 c3 hdat
        clear hcell
        by_cases hk0 : ak = 0
        · subst hk0
          go_wp2_with fail
          refine region_begin (T := [r, bb, mr]) (by kernel_rfl) ?_
          have hW : Only [] wr (wr.alloc (.cells #[.int .i64 0, .slice A m ca, .int .i64 an] 39)).drew := ((Only.refl [] wr).alloc _).drew
          have hq : Blk (wr.alloc (.cells #[.int .i64 0, .slice A m ca, .int .i64 an] 39)).drew wr.heap.size 39 [.int .i64 0, .slice A m ca, .int .i64 an] := Blk.new wr 39 [.int .i64 0, .slice A m ca, .int .i64 an]
          have hIW := hI.only hW
          have hqs := hI.size
          generalize (wr.alloc (.cells #[.int .i64 0, .slice A m ca, .int .i64 an] 39)).drew = W at hW hq hIW ⊢
          clear hI hW c1 c2 c3
          obtain ⟨hRW, hFW, hBW, hSW⟩ := hIW
          obtain ⟨hcl, _, _⟩ := hRW.le
          have s1 : ∀ x : Later [r, bb, mr] W, x.w.cell? ⟨wr.heap.size, 1, none⟩ = some (.slice A m ca) := fun x => (hq.only x.h (by simp; omega)).cell 1
          have hrd := hdat.2.2.2.1.below hBW
          obtain ⟨p, hp⟩ : ∃ p, p = min m (N - c.length) := ⟨_, rfl⟩
          refine region_seg [true, true, true, false, true, true, true] 3 (by kernel_rfl) (by kernel_rfl) (by kernel_rfl) rfl (fun _ _ d _ _ h => by cases d <;> exact h) ?_
          repeat (first | with_reducible refine wpMask_pass ?_ | (refine wpMask_want (by rfl) (fun K hK => ?_); go_big_quiet_op; refine hK _ ?_; clear hK K))
          with_reducible refine wpMask_nil ?_
          refine region_call 3 (by kernel_rfl) rfl (by rfl) (by go_simp; exact ⟨rfl, rfl⟩) ?_
          refine (put_c hRW hrd hBW.size (fun h0 ad e => by obtain ⟨ad', e', hl, _⟩ := hrd.2 h0; rw [e] at e'; injection e' with e'; subst e'; omega) hdat.2.1 (by omega) p hp).mono ?_
          rintro e W4 ⟨rfl, hR4, hO4⟩
          refine ⟨_, rfl, hO4.more (by simp), ?_⟩
          simp only [List.getElem_toArray, List.getElem_cons_zero, List.getElem_cons_succ, Act.put, List.setIfInBounds_toArray, List.set_cons_zero, List.set_cons_succ]
          have hF4 := hFW.only hO4 (by simp; omega) (by simp; omega)
          have hrd4 := hrd.only hO4 hBW.size (by simp; omega)
          have hS4 := hO4.size
          refine region_call 7 (by kernel_rfl) rfl (by rfl) (by go_simp; exact ⟨rfl, rfl⟩) ?_
          refine (ref_put hF4 hcl hN2 hrd4 (by omega) hdat.2.1 hdat.2.2.1 p hp (by omega) (by omega)).mono ?_
          rintro e W5 ⟨rfl, hF5, hO5⟩
          refine ⟨_, rfl, hO5.more (by simp), ?_⟩
          simp only [List.getElem_toArray, List.getElem_cons_zero, List.getElem_cons_succ, Act.put, List.setIfInBounds_toArray, List.set_cons_zero, List.set_cons_succ]
          refine region_seg [false, false, false, false, false, false, false, false, true] 0 (by kernel_rfl) (by kernel_rfl) (by kernel_rfl) rfl (fun _ _ d _ _ h => by cases d <;> exact h) ?_
          repeat (first | with_reducible refine wpMask_pass ?_ | (refine wpMask_want (by rfl) (fun K hK => ?_); go_big_quiet_op; refine hK _ ?_; clear hK K))
          with_reducible refine wpMask_nil ?_
          refine region_end (by kernel_rfl) ?_
          obtain ⟨c5, hI5⟩ : ∃ c5, MatchInv w r bb mr N W5 c5 := ⟨_, hR4.only hO5 (by simp; omega) (by simp; omega), hF5, Only.below (Only.below hBW hO4 hBW.size (by simp; omega)) hO5 (by have := hBW.size; omega) (by simp; omega), by have := hO5.size; omega⟩
          clear s1 hrd hrd4 hR4 hF4 hF5 hO4 hO5 hRW hFW hq hBW hp
          go_wp2_with fail
          refine region_begin (T := []) (by kernel_rfl) ?_
          have hJ := hI5.only ((Only.refl [] W5).drew)
          clear hI5
          generalize W5.drew = V at hJ ⊢
          obtain ⟨hRV, hFV, hBV, hSV⟩ := hJ
          obtain ⟨hcl5, _, _⟩ := hRV.le
          obtain ⟨L, hL⟩ : ∃ L, L = c5.length := ⟨_, rfl⟩
          obtain ⟨C, cc, hbk, hcc, hccm, hrC, hC⟩ := hFV
          rw [← hL] at hbk hcc hrC hC hcl5
          obtain ⟨f, hf⟩ : ∃ f, f + L = N := ⟨N - L, by omega⟩
          have t0 : ∀ x : Later [] V, x.w.cell? ⟨mr, 0, none⟩ = some (.slice C L cc) := fun x => (hbk.only x.h (by simp)).cell 0
          have t1 : ∀ x : Later [] V, x.w.cell? ⟨mr, 1, none⟩ = some (.int .i64 N) := fun x => (hbk.only x.h (by simp)).cell 1
          have t2 : ∀ x : Later [] V, StrAt x.w C L cc c5 := fun x => strAt_of (hrC.only' x.h (Nat.le_refl _) (by simp)) cc
          unfold StrAt at t2
          have hs1 : IntKind.i64.wrap ((N : Int) - (L : Int)) = (f : Int) := by rw [IntWalk.i64_in _ (by omega)]; omega
          have hs2 : wrap64 ((N : Int) - (L : Int)) = (f : Int) := by rw [IntWalk.wrap64_in _ (by omega)]; omega
          have hs3 : (N : Int) - (L : Int) = (f : Int) := by omega
          have HL := Lib.hid hL
          have HF := Lib.hid hf
          clear hL hf
          refine region_seg [true, false, true, true, true, true, true] 39 (by kernel_rfl) (by kernel_rfl) (by kernel_rfl) rfl (fun _ _ d _ _ h => by cases d <;> exact h) ?_
          repeat (first | with_reducible refine wpMask_pass ?_ | (refine wpMask_want (by rfl) (fun K hK => ?_); go_big_quiet_op; refine hK _ ?_; clear hK K))
          with_reducible refine wpMask_nil ?_
          refine region_call 1 (by kernel_rfl) rfl (by rfl) (by go_simp; exact ⟨rfl, rfl⟩) ?_
          refine (len_c hRV L HL.out).mono ?_
          rintro e w' ⟨rfl, rfl⟩
          refine ⟨_, rfl, Only.refl _ _, ?_⟩
          simp only [List.getElem_toArray, List.getElem_cons_zero, List.getElem_cons_succ, Act.put, List.setIfInBounds_toArray, List.set_cons_zero, List.set_cons_succ]
          refine region_seg [false, false, false, false, false, false, false, true, true, true, false, true, true, true, true] 31 (by kernel_rfl) (by kernel_rfl) (by kernel_rfl) rfl (fun _ _ d _ _ h => by cases d <;> exact h) ?_
          repeat (first | with_reducible refine wpMask_pass ?_ | (refine wpMask_want (by rfl) (fun K hK => ?_); go_big_quiet_op; refine hK _ ?_; clear hK K))
          with_reducible refine wpMask_nil ?_
          refine region_call 10 (by kernel_rfl) rfl (by rfl) (by go_simp; exact ⟨rfl, rfl⟩) ?_
          refine (cap_c hRV).mono ?_
          rintro e w' ⟨rfl, rfl⟩
          refine ⟨_, rfl, Only.refl _ _, ?_⟩
          simp only [List.getElem_toArray, List.getElem_cons_zero, List.getElem_cons_succ, Act.put, List.setIfInBounds_toArray, List.set_cons_zero, List.set_cons_succ]
          refine region_seg [false, false, false, false, false, false, false, false, false, false, false, false, false, false, false, true, true, true, true, false, true, true, true, true, true, true, true, true, true, true] 16 (by kernel_rfl) (by kernel_rfl) (by kernel_rfl) rfl (fun _ _ d _ _ h => by cases d <;> exact h) ?_
          repeat (first | with_reducible refine wpMask_pass ?_ | (refine wpMask_want (by rfl) (fun K hK => ?_); go_big_quiet_op; refine hK _ ?_; clear hK K))
          with_reducible refine wpMask_nil ?_
          refine region_call 19 (by kernel_rfl) rfl (by rfl) (by go_simp; exact ⟨rfl, rfl⟩) ?_
          refine (free_c hRV f (by rw [← HL.out]; exact HF.out)).mono ?_
          rintro e w' ⟨rfl, rfl⟩
          refine ⟨_, rfl, Only.refl _ _, ?_⟩
          simp only [List.getElem_toArray, List.getElem_cons_zero, List.getElem_cons_succ, Act.put, List.setIfInBounds_toArray, List.set_cons_zero, List.set_cons_succ]
          refine region_seg [false, false, false, false, false, false, false, false, false, false, false, false, false, false, false, false, false, false, false, false, false, false, false, false, false, false, false, false, false, false, true, true, true, true, true, false, false, false, true, true, true, true, true] 5 (by kernel_rfl) (by kernel_rfl) (by kernel_rfl) rfl (fun _ _ d _ _ h => by cases d <;> exact h) ?_
          repeat (first | with_reducible refine wpMask_pass ?_ | (refine wpMask_want (by rfl) (fun K hK => ?_); go_big_quiet_op; refine hK _ ?_; clear hK K))
          with_reducible refine wpMask_nil ?_
          refine region_call 35 (by kernel_rfl) rfl (by rfl) (by go_simp; exact ⟨rfl, rfl⟩) ?_
          refine (len_c hRV L HL.out).mono ?_
          rintro e w' ⟨rfl, rfl⟩
          refine ⟨_, rfl, Only.refl _ _, ?_⟩
          simp only [List.getElem_toArray, List.getElem_cons_zero, List.getElem_cons_succ, Act.put, List.setIfInBounds_toArray, List.set_cons_zero, List.set_cons_succ]
          refine region_call 36 (by kernel_rfl) rfl (by rfl) (by go_simp; exact ⟨rfl, rfl⟩) ?_
          refine (peek_c hRV (L : Int) L (by rw [← HL.out]; omega)).mono ?_
          rintro e V2 ⟨g2, rfl, hg2, hB2, hO2⟩
          refine ⟨_, rfl, hO2, ?_⟩
          simp only [List.getElem_toArray, List.getElem_cons_zero, List.getElem_cons_succ, Act.put, List.setIfInBounds_toArray, List.set_cons_zero, List.set_cons_succ]
          rw [List.take_of_length_le (by rw [← HL.out]; exact Nat.le_refl _)] at hB2
          have t3 : ∀ x : Later [] V2, StrAt x.w (some ⟨g2, 0, none⟩) L L c5 := fun x => strAt_of (by have hb := hB2.only x.h (by simp); have := Reads.of_blk hb 0 L (by rw [vbs_length, ← HL.out]; omega) hb.lt; rw [List.drop_zero, List.take_of_length_le (by rw [vbs_length, ← HL.out]; omega)] at this; exact this) L
          unfold StrAt at t3
          clear t0 t1 t2 hs1 hs2 hs3
          refine region_seg [false, false, false, false, false, false, false, false, false, false, false, false, false, false, false, false, false, false, false, false, false, false, false, false, false, false, false, false, false, false, false, false, false, false, false, false, false, true, false, false, false, false, false, true, true] 0 (by kernel_rfl) (by kernel_rfl) (by kernel_rfl) rfl (fun _ _ d _ _ h => by cases d <;> exact h) ?_
          repeat (first | with_reducible refine wpMask_pass ?_ | (refine wpMask_want (by rfl) (fun K hK => ?_); go_big_quiet_op; refine hK _ ?_; clear hK K))
          with_reducible refine wpMask_nil ?_
          refine region_end (by kernel_rfl) ?_
          have hJ2 : MatchInv w r bb mr N V2 c5 := MatchInv.only ⟨hRV, ⟨C, cc, by rw [← HL.out]; exact hbk, by rw [← HL.out]; exact hcc, hccm, by rw [← HL.out]; exact hrC, by rw [← HL.out]; exact hC⟩, hBV, hSV⟩ hO2
          clear t3 hB2 hRV hbk hrC hC hO2
          go_wp2_with fail
          go_roundw
          case rel => exact ⟨k + 1, c5, by omega, by go_num, hJ2⟩
          case measure => simp [intOf]; omega
        · by_cases hk1 : ak = 1
          · subst hk1
            go_wp2_with fail
            refine region_begin (T := []) (by kernel_rfl) ?_
            have hW : Only [] wr (wr.alloc (.cells #[.int .i64 1, .slice A m ca, .int .i64 an] 39)).drew := ((Only.refl [] wr).alloc _).drew
            have hq : Blk (wr.alloc (.cells #[.int .i64 1, .slice A m ca, .int .i64 an] 39)).drew wr.heap.size 39 [.int .i64 1, .slice A m ca, .int .i64 an] := Blk.new wr 39 [.int .i64 1, .slice A m ca, .int .i64 an]
            have hIW := hI.only hW
            have hqs := hI.size
            generalize (wr.alloc (.cells #[.int .i64 1, .slice A m ca, .int .i64 an] 39)).drew = W at hW hq hIW ⊢
            clear hI hW c1 c2 c3
            obtain ⟨hRW, hFW, hBW, hSW⟩ := hIW
            obtain ⟨hcl, _, _⟩ := hRW.le
            have s1 : ∀ x : Later [] W, x.w.cell? ⟨wr.heap.size, 2, none⟩ = some (.int .i64 an) := fun x => (hq.only x.h (by simp)).cell 2
            obtain ⟨p, hp⟩ : ∃ p, p = (min an (c.length : Int)).toNat := ⟨_, rfl⟩
            have hpc : p ≤ c.length := by omega
            have HP := Lib.hid hp
            clear hp
            refine region_seg [true, true, true, false, false, true, true, true] 5 (by kernel_rfl) (by kernel_rfl) (by kernel_rfl) rfl (fun _ _ d _ _ h => by cases d <;> exact h) ?_
            repeat (first | with_reducible refine wpMask_pass ?_ | (refine wpMask_want (by rfl) (fun K hK => ?_); go_big_quiet_op; refine hK _ ?_; clear hK K))
            with_reducible refine wpMask_nil ?_
            refine region_call 3 (by kernel_rfl) rfl (by rfl) (by go_simp; exact ⟨rfl, rfl⟩) ?_
            refine (peek_c hRW an p HP.out).mono ?_
            rintro e W4 ⟨g4, rfl, hg4, hB4, hO4⟩
            refine ⟨_, rfl, hO4, ?_⟩
            simp only [List.getElem_toArray, List.getElem_cons_zero, List.getElem_cons_succ, Act.put, List.setIfInBounds_toArray, List.set_cons_zero, List.set_cons_succ]
            have HPL := Lib.hid (show (c.take p).length = p by rw [List.length_take]; omega)
            have s2 : ∀ x : Later [] W4, StrAt x.w (some ⟨g4, 0, none⟩) p p (c.take p) := fun x => strAt_of (by have hb := hB4.only x.h (by simp); have := Reads.of_blk hb 0 p (by rw [vbs_length, HPL.out]; omega) hb.lt; rw [List.drop_zero, List.take_of_length_le (by rw [vbs_length, HPL.out]; omega)] at this; exact this) p
            unfold StrAt at s2
            refine region_seg [false, false, false, false, true] 3 (by kernel_rfl) (by kernel_rfl) (by kernel_rfl) rfl (fun _ _ d _ _ h => by cases d <;> exact h) ?_
            repeat (first | with_reducible refine wpMask_pass ?_ | (refine wpMask_want (by rfl) (fun K hK => ?_); go_big_quiet_op; refine hK _ ?_; clear hK K))
            with_reducible refine wpMask_nil ?_
            refine region_call 8 (by kernel_rfl) rfl (by rfl) (by go_simp; exact ⟨rfl, rfl⟩) ?_
            refine (ref_peek (hFW.only hO4 (by simp) (by simp)) an p HP.out (by omega)).mono ?_
            rintro e W5 hpost
            obtain ⟨v, rfl, hown, hO5⟩ := hpost
            obtain ⟨A6, c6, rfl, _, _, hrd6, _, _⟩ := Reads.of_own hown
            refine ⟨_, rfl, hO5, ?_⟩
            simp only [List.getElem_toArray, List.getElem_cons_zero, List.getElem_cons_succ, Act.put, List.setIfInBounds_toArray, List.set_cons_zero, List.set_cons_succ]
            have s3 : ∀ x : Later [] W5, StrAt x.w A6 p c6 (c.take p) := fun x => strAt_of (hrd6.only' x.h (Nat.le_refl _) (by simp)) c6
            unfold StrAt at s3
            refine region_seg [false, false, false, false, false, false, false, false, false, true, true] 0 (by kernel_rfl) (by kernel_rfl) (by kernel_rfl) rfl (fun _ _ d _ _ h => by cases d <;> exact h) ?_
            repeat (first | with_reducible refine wpMask_pass ?_ | (refine wpMask_want (by rfl) (fun K hK => ?_); go_big_quiet_op; refine hK _ ?_; clear hK K))
            with_reducible refine wpMask_nil ?_
            refine region_end (by kernel_rfl) ?_
            obtain ⟨c5, hI5⟩ : ∃ c5, MatchInv w r bb mr N W5 c5 := ⟨_, MatchInv.only ⟨hRW, hFW, hBW, hSW⟩ (hO4.trans hO5)⟩
            clear s1 s2 s3 hown hrd6 hB4 hO4 hO5 hRW hFW hq hBW HP
            go_wp2_with fail
            refine region_begin (T := []) (by kernel_rfl) ?_
            have hJ := hI5.only ((Only.refl [] W5).drew)
            clear hI5
            generalize W5.drew = V at hJ ⊢
            obtain ⟨hRV, hFV, hBV, hSV⟩ := hJ
            obtain ⟨hcl5, _, _⟩ := hRV.le
            obtain ⟨L, hL⟩ : ∃ L, L = c5.length := ⟨_, rfl⟩
            obtain ⟨C, cc, hbk, hcc, hccm, hrC, hC⟩ := hFV
            rw [← hL] at hbk hcc hrC hC hcl5
            obtain ⟨f, hf⟩ : ∃ f, f + L = N := ⟨N - L, by omega⟩
            have t0 : ∀ x : Later [] V, x.w.cell? ⟨mr, 0, none⟩ = some (.slice C L cc) := fun x => (hbk.only x.h (by simp)).cell 0
            have t1 : ∀ x : Later [] V, x.w.cell? ⟨mr, 1, none⟩ = some (.int .i64 N) := fun x => (hbk.only x.h (by simp)).cell 1
            have t2 : ∀ x : Later [] V, StrAt x.w C L cc c5 := fun x => strAt_of (hrC.only' x.h (Nat.le_refl _) (by simp)) cc
            unfold StrAt at t2
            have hs1 : IntKind.i64.wrap ((N : Int) - (L : Int)) = (f : Int) := by rw [IntWalk.i64_in _ (by omega)]; omega
            have hs2 : wrap64 ((N : Int) - (L : Int)) = (f : Int) := by rw [IntWalk.wrap64_in _ (by omega)]; omega
            have hs3 : (N : Int) - (L : Int) = (f : Int) := by omega
            have HL := Lib.hid hL
            have HF := Lib.hid hf
            clear hL hf
            refine region_seg [true, false, true, true, true, true, true] 39 (by kernel_rfl) (by kernel_rfl) (by kernel_rfl) rfl (fun _ _ d _ _ h => by cases d <;> exact h) ?_
            repeat (first | with_reducible refine wpMask_pass ?_ | (refine wpMask_want (by rfl) (fun K hK => ?_); go_big_quiet_op; refine hK _ ?_; clear hK K))
            with_reducible refine wpMask_nil ?_
            refine region_call 1 (by kernel_rfl) rfl (by rfl) (by go_simp; exact ⟨rfl, rfl⟩) ?_
            refine (len_c hRV L HL.out).mono ?_
            rintro e w' ⟨rfl, rfl⟩
            refine ⟨_, rfl, Only.refl _ _, ?_⟩
            simp only [List.getElem_toArray, List.getElem_cons_zero, List.getElem_cons_succ, Act.put, List.setIfInBounds_toArray, List.set_cons_zero, List.set_cons_succ]
            refine region_seg [false, false, false, false, false, false, false, true, true, true, false, true, true, true, true] 31 (by kernel_rfl) (by kernel_rfl) (by kernel_rfl) rfl (fun _ _ d _ _ h => by cases d <;> exact h) ?_
            repeat (first | with_reducible refine wpMask_pass ?_ | (refine wpMask_want (by rfl) (fun K hK => ?_); go_big_quiet_op; refine hK _ ?_; clear hK K))
            with_reducible refine wpMask_nil ?_
            refine region_call 10 (by kernel_rfl) rfl (by rfl) (by go_simp; exact ⟨rfl, rfl⟩) ?_
            refine (cap_c hRV).mono ?_
            rintro e w' ⟨rfl, rfl⟩
            refine ⟨_, rfl, Only.refl _ _, ?_⟩
            simp only [List.getElem_toArray, List.getElem_cons_zero, List.getElem_cons_succ, Act.put, List.setIfInBounds_toArray, List.set_cons_zero, List.set_cons_succ]
            refine region_seg [false, false, false, false, false, false, false, false, false, false, false, false, false, false, false, true, true, true, true, false, true, true, true, true, true, true, true, true, true, true] 16 (by kernel_rfl) (by kernel_rfl) (by kernel_rfl) rfl (fun _ _ d _ _ h => by cases d <;> exact h) ?_
            repeat (first | with_reducible refine wpMask_pass ?_ | (refine wpMask_want (by rfl) (fun K hK => ?_); go_big_quiet_op; refine hK _ ?_; clear hK K))
            with_reducible refine wpMask_nil ?_
            refine region_call 19 (by kernel_rfl) rfl (by rfl) (by go_simp; exact ⟨rfl, rfl⟩) ?_
            refine (free_c hRV f (by rw [← HL.out]; exact HF.out)).mono ?_
            rintro e w' ⟨rfl, rfl⟩
            refine ⟨_, rfl, Only.refl _ _, ?_⟩
            simp only [List.getElem_toArray, List.getElem_cons_zero, List.getElem_cons_succ, Act.put, List.setIfInBounds_toArray, List.set_cons_zero, List.set_cons_succ]
            refine region_seg [false, false, false, false, false, false, false, false, false, false, false, false, false, false, false, false, false, false, false, false, false, false, false, false, false, false, false, false, false, false, true, true, true, true, true, false, false, false, true, true, true, true, true] 5 (by kernel_rfl) (by kernel_rfl) (by kernel_rfl) rfl (fun _ _ d _ _ h => by cases d <;> exact h) ?_
            repeat (first | with_reducible refine wpMask_pass ?_ | (refine wpMask_want (by rfl) (fun K hK => ?_); go_big_quiet_op; refine hK _ ?_; clear hK K))
            with_reducible refine wpMask_nil ?_
            refine region_call 35 (by kernel_rfl) rfl (by rfl) (by go_simp; exact ⟨rfl, rfl⟩) ?_
            refine (len_c hRV L HL.out).mono ?_
            rintro e w' ⟨rfl, rfl⟩
            refine ⟨_, rfl, Only.refl _ _, ?_⟩
            simp only [List.getElem_toArray, List.getElem_cons_zero, List.getElem_cons_succ, Act.put, List.setIfInBounds_toArray, List.set_cons_zero, List.set_cons_succ]
            refine region_call 36 (by kernel_rfl) rfl (by rfl) (by go_simp; exact ⟨rfl, rfl⟩) ?_
            refine (peek_c hRV (L : Int) L (by rw [← HL.out]; omega)).mono ?_
            rintro e V2 ⟨g2, rfl, hg2, hB2, hO2⟩
            refine ⟨_, rfl, hO2, ?_⟩
            simp only [List.getElem_toArray, List.getElem_cons_zero, List.getElem_cons_succ, Act.put, List.setIfInBounds_toArray, List.set_cons_zero, List.set_cons_succ]
            rw [List.take_of_length_le (by rw [← HL.out]; exact Nat.le_refl _)] at hB2
            have t3 : ∀ x : Later [] V2, StrAt x.w (some ⟨g2, 0, none⟩) L L c5 := fun x => strAt_of (by have hb := hB2.only x.h (by simp); have := Reads.of_blk hb 0 L (by rw [vbs_length, ← HL.out]; omega) hb.lt; rw [List.drop_zero, List.take_of_length_le (by rw [vbs_length, ← HL.out]; omega)] at this; exact this) L
            unfold StrAt at t3
            clear t0 t1 t2 hs1 hs2 hs3
            refine region_seg [false, false, false, false, false, false, false, false, false, false, false, false, false, false, false, false, false, false, false, false, false, false, false, false, false, false, false, false, false, false, false, false, false, false, false, false, false, true, false, false, false, false, false, true, true] 0 (by kernel_rfl) (by kernel_rfl) (by kernel_rfl) rfl (fun _ _ d _ _ h => by cases d <;> exact h) ?_
            repeat (first | with_reducible refine wpMask_pass ?_ | (refine wpMask_want (by rfl) (fun K hK => ?_); go_big_quiet_op; refine hK _ ?_; clear hK K))
            with_reducible refine wpMask_nil ?_
            refine region_end (by kernel_rfl) ?_
            have hJ2 : MatchInv w r bb mr N V2 c5 := MatchInv.only ⟨hRV, ⟨C, cc, by rw [← HL.out]; exact hbk, by rw [← HL.out]; exact hcc, hccm, by rw [← HL.out]; exact hrC, by rw [← HL.out]; exact hC⟩, hBV, hSV⟩ hO2
            clear t3 hB2 hRV hbk hrC hC hO2
            go_wp2_with fail
            go_roundw
            case rel => exact ⟨k + 1, c5, by omega, by go_num, hJ2⟩
            case measure => simp [intOf]; omega
          · have hk0' : (ak == 0) = false := by simpa using hk0
            have hk1' : (ak == 1) = false := by simpa using hk1
            by_cases hj : 0 ≤ an ∧ an ≤ (c.length : Int)
            · obtain ⟨hj0, hj1⟩ := hj
              obtain ⟨j, rfl⟩ := Int.eq_ofNat_of_zero_le hj0
              clear hj0
              go_wp2_with fail
              refine region_begin (T := [r, mr]) (by kernel_rfl) ?_
              have hW : Only [] wr (wr.alloc (.cells #[.int .i64 ak, .slice A m ca, .int .i64 (j : Int)] 39)).drew := ((Only.refl [] wr).alloc _).drew
              have hq : Blk (wr.alloc (.cells #[.int .i64 ak, .slice A m ca, .int .i64 (j : Int)] 39)).drew wr.heap.size 39 [.int .i64 ak, .slice A m ca, .int .i64 (j : Int)] := Blk.new wr 39 [.int .i64 ak, .slice A m ca, .int .i64 (j : Int)]
              have hIW := hI.only hW
              have hqs := hI.size
              generalize (wr.alloc (.cells #[.int .i64 ak, .slice A m ca, .int .i64 (j : Int)] 39)).drew = W at hW hq hIW ⊢
              clear hI hW c1 c2 c3
              obtain ⟨hRW, hFW, hBW, hSW⟩ := hIW
              obtain ⟨hcl, _, _⟩ := hRW.le
              have s1 : ∀ x : Later [r, mr] W, x.w.cell? ⟨wr.heap.size, 2, none⟩ = some (.int .i64 (j : Int)) := fun x => (hq.only x.h (by simp; omega)).cell 2
              refine region_seg [true, true, true, false, true, true, true] 3 (by kernel_rfl) (by kernel_rfl) (by kernel_rfl) rfl (fun _ _ d _ _ h => by cases d <;> exact h) ?_
              repeat (first | with_reducible refine wpMask_pass ?_ | (refine wpMask_want (by rfl) (fun K hK => ?_); go_big_quiet_op; refine hK _ ?_; clear hK K))
              with_reducible refine wpMask_nil ?_
              refine region_call 3 (by kernel_rfl) rfl (by rfl) (by go_simp; exact ⟨rfl, rfl⟩) ?_
              refine (consume_c hRW (j : Int) j rfl (by omega)).mono ?_
              rintro e W4 ⟨rfl, hR4, hO4⟩
              refine ⟨_, rfl, hO4.more (by simp), ?_⟩
              simp only [List.getElem_toArray, List.getElem_cons_zero, List.getElem_cons_succ, Act.put, List.setIfInBounds_toArray, List.set_cons_zero, List.set_cons_succ]
              have hF4 := hFW.only hO4 (by simp; omega) (by simp; omega)
              have hS4 := hO4.size
              refine region_call 7 (by kernel_rfl) rfl (by rfl) (by go_simp; exact ⟨rfl, rfl⟩) ?_
              refine (ref_consume hF4 j (by omega) (by omega) (by omega) (by omega)).mono ?_
              rintro e W5 ⟨rfl, hF5, hO5⟩
              refine ⟨_, rfl, hO5.more (by simp), ?_⟩
              simp only [List.getElem_toArray, List.getElem_cons_zero, List.getElem_cons_succ, Act.put, List.setIfInBounds_toArray, List.set_cons_zero, List.set_cons_succ]
              refine region_seg [false, false, false, false, false, false, false, false, true] 0 (by kernel_rfl) (by kernel_rfl) (by kernel_rfl) rfl (fun _ _ d _ _ h => by cases d <;> exact h) ?_
              repeat (first | with_reducible refine wpMask_pass ?_ | (refine wpMask_want (by rfl) (fun K hK => ?_); go_big_quiet_op; refine hK _ ?_; clear hK K))
              with_reducible refine wpMask_nil ?_
              refine region_end (by kernel_rfl) ?_
              obtain ⟨c5, hI5⟩ : ∃ c5, MatchInv w r bb mr N W5 c5 := ⟨_, hR4.only hO5 (by simp; omega) (by simp; omega), hF5, Only.below (Only.below hBW hO4 hBW.size (by simp; omega)) hO5 (by have := hBW.size; omega) (by simp; omega), by have := hO5.size; omega⟩
              clear s1 hR4 hF4 hF5 hO4 hO5 hRW hFW hq hBW
              go_wp2_with fail
              refine region_begin (T := []) (by kernel_rfl) ?_
              have hJ := hI5.only ((Only.refl [] W5).drew)
              clear hI5
              generalize W5.drew = V at hJ ⊢
              obtain ⟨hRV, hFV, hBV, hSV⟩ := hJ
              obtain ⟨hcl5, _, _⟩ := hRV.le
              obtain ⟨L, hL⟩ : ∃ L, L = c5.length := ⟨_, rfl⟩
              obtain ⟨C, cc, hbk, hcc, hccm, hrC, hC⟩ := hFV
              rw [← hL] at hbk hcc hrC hC hcl5
              obtain ⟨f, hf⟩ : ∃ f, f + L = N := ⟨N - L, by omega⟩
              have t0 : ∀ x : Later [] V, x.w.cell? ⟨mr, 0, none⟩ = some (.slice C L cc) := fun x => (hbk.only x.h (by simp)).cell 0
              have t1 : ∀ x : Later [] V, x.w.cell? ⟨mr, 1, none⟩ = some (.int .i64 N) := fun x => (hbk.only x.h (by simp)).cell 1
              have t2 : ∀ x : Later [] V, StrAt x.w C L cc c5 := fun x => strAt_of (hrC.only' x.h (Nat.le_refl _) (by simp)) cc
              unfold StrAt at t2
              have hs1 : IntKind.i64.wrap ((N : Int) - (L : Int)) = (f : Int) := by rw [IntWalk.i64_in _ (by omega)]; omega
              have hs2 : wrap64 ((N : Int) - (L : Int)) = (f : Int) := by rw [IntWalk.wrap64_in _ (by omega)]; omega
              have hs3 : (N : Int) - (L : Int) = (f : Int) := by omega
              have HL := Lib.hid hL
              have HF := Lib.hid hf
              clear hL hf
              refine region_seg [true, false, true, true, true, true, true] 39 (by kernel_rfl) (by kernel_rfl) (by kernel_rfl) rfl (fun _ _ d _ _ h => by cases d <;> exact h) ?_
              repeat (first | with_reducible refine wpMask_pass ?_ | (refine wpMask_want (by rfl) (fun K hK => ?_); go_big_quiet_op; refine hK _ ?_; clear hK K))
              with_reducible refine wpMask_nil ?_
              refine region_call 1 (by kernel_rfl) rfl (by rfl) (by go_simp; exact ⟨rfl, rfl⟩) ?_
              refine (len_c hRV L HL.out).mono ?_
              rintro e w' ⟨rfl, rfl⟩
              refine ⟨_, rfl, Only.refl _ _, ?_⟩
              simp only [List.getElem_toArray, List.getElem_cons_zero, List.getElem_cons_succ, Act.put, List.setIfInBounds_toArray, List.set_cons_zero, List.set_cons_succ]
              refine region_seg [false, false, false, false, false, false, false, true, true, true, false, true, true, true, true] 31 (by kernel_rfl) (by kernel_rfl) (by kernel_rfl) rfl (fun _ _ d _ _ h => by cases d <;> exact h) ?_
              repeat (first | with_reducible refine wpMask_pass ?_ | (refine wpMask_want (by rfl) (fun K hK => ?_); go_big_quiet_op; refine hK _ ?_; clear hK K))
              with_reducible refine wpMask_nil ?_
              refine region_call 10 (by kernel_rfl) rfl (by rfl) (by go_simp; exact ⟨rfl, rfl⟩) ?_
              refine (cap_c hRV).mono ?_
              rintro e w' ⟨rfl, rfl⟩
              refine ⟨_, rfl, Only.refl _ _, ?_⟩
              simp only [List.getElem_toArray, List.getElem_cons_zero, List.getElem_cons_succ, Act.put, List.setIfInBounds_toArray, List.set_cons_zero, List.set_cons_succ]
              refine region_seg [false, false, false, false, false, false, false, false, false, false, false, false, false, false, false, true, true, true, true, false, true, true, true, true, true, true, true, true, true, true] 16 (by kernel_rfl) (by kernel_rfl) (by kernel_rfl) rfl (fun _ _ d _ _ h => by cases d <;> exact h) ?_
              repeat (first | with_reducible refine wpMask_pass ?_ | (refine wpMask_want (by rfl) (fun K hK => ?_); go_big_quiet_op; refine hK _ ?_; clear hK K))
              with_reducible refine wpMask_nil ?_
              refine region_call 19 (by kernel_rfl) rfl (by rfl) (by go_simp; exact ⟨rfl, rfl⟩) ?_
              refine (free_c hRV f (by rw [← HL.out]; exact HF.out)).mono ?_
              rintro e w' ⟨rfl, rfl⟩
              refine ⟨_, rfl, Only.refl _ _, ?_⟩
              simp only [List.getElem_toArray, List.getElem_cons_zero, List.getElem_cons_succ, Act.put, List.setIfInBounds_toArray, List.set_cons_zero, List.set_cons_succ]
              refine region_seg [false, false, false, false, false, false, false, false, false, false, false, false, false, false, false, false, false, false, false, false, false, false, false, false, false, false, false, false, false, false, true, true, true, true, true, false, false, false, true, true, true, true, true] 5 (by kernel_rfl) (by kernel_rfl) (by kernel_rfl) rfl (fun _ _ d _ _ h => by cases d <;> exact h) ?_
              repeat (first | with_reducible refine wpMask_pass ?_ | (refine wpMask_want (by rfl) (fun K hK => ?_); go_big_quiet_op; refine hK _ ?_; clear hK K))
              with_reducible refine wpMask_nil ?_
              refine region_call 35 (by kernel_rfl) rfl (by rfl) (by go_simp; exact ⟨rfl, rfl⟩) ?_
              refine (len_c hRV L HL.out).mono ?_
              rintro e w' ⟨rfl, rfl⟩
              refine ⟨_, rfl, Only.refl _ _, ?_⟩
              simp only [List.getElem_toArray, List.getElem_cons_zero, List.getElem_cons_succ, Act.put, List.setIfInBounds_toArray, List.set_cons_zero, List.set_cons_succ]
              refine region_call 36 (by kernel_rfl) rfl (by rfl) (by go_simp; exact ⟨rfl, rfl⟩) ?_
              refine (peek_c hRV (L : Int) L (by rw [← HL.out]; omega)).mono ?_
              rintro e V2 ⟨g2, rfl, hg2, hB2, hO2⟩
              refine ⟨_, rfl, hO2, ?_⟩
              simp only [List.getElem_toArray, List.getElem_cons_zero, List.getElem_cons_succ, Act.put, List.setIfInBounds_toArray, List.set_cons_zero, List.set_cons_succ]
              rw [List.take_of_length_le (by rw [← HL.out]; exact Nat.le_refl _)] at hB2
              have t3 : ∀ x : Later [] V2, StrAt x.w (some ⟨g2, 0, none⟩) L L c5 := fun x => strAt_of (by have hb := hB2.only x.h (by simp); have := Reads.of_blk hb 0 L (by rw [vbs_length, ← HL.out]; omega) hb.lt; rw [List.drop_zero, List.take_of_length_le (by rw [vbs_length, ← HL.out]; omega)] at this; exact this) L
              unfold StrAt at t3
              clear t0 t1 t2 hs1 hs2 hs3
              refine region_seg [false, false, false, false, false, false, false, false, false, false, false, false, false, false, false, false, false, false, false, false, false, false, false, false, false, false, false, false, false, false, false, false, false, false, false, false, false, true, false, false, false, false, false, true, true] 0 (by kernel_rfl) (by kernel_rfl) (by kernel_rfl) rfl (fun _ _ d _ _ h => by cases d <;> exact h) ?_
              repeat (first | with_reducible refine wpMask_pass ?_ | (refine wpMask_want (by rfl) (fun K hK => ?_); go_big_quiet_op; refine hK _ ?_; clear hK K))
              with_reducible refine wpMask_nil ?_
              refine region_end (by kernel_rfl) ?_
              have hJ2 : MatchInv w r bb mr N V2 c5 := MatchInv.only ⟨hRV, ⟨C, cc, by rw [← HL.out]; exact hbk, by rw [← HL.out]; exact hcc, hccm, by rw [← HL.out]; exact hrC, by rw [← HL.out]; exact hC⟩, hBV, hSV⟩ hO2
              clear t3 hB2 hRV hbk hrC hC hO2
              go_wp2_with fail
              go_roundw
              case rel => exact ⟨k + 1, c5, by omega, by go_num, hJ2⟩
              case measure => simp [intOf]; omega
            · go_wp2_with fail
              refine region_begin (T := []) (by kernel_rfl) ?_
              have hW : Only [] wr (wr.alloc (.cells #[.int .i64 ak, .slice A m ca, .int .i64 an] 39)).drew := ((Only.refl [] wr).alloc _).drew
              have hq : Blk (wr.alloc (.cells #[.int .i64 ak, .slice A m ca, .int .i64 an] 39)).drew wr.heap.size 39 [.int .i64 ak, .slice A m ca, .int .i64 an] := Blk.new wr 39 [.int .i64 ak, .slice A m ca, .int .i64 an]
              have hIW := hI.only hW
              have hqs := hI.size
              generalize (wr.alloc (.cells #[.int .i64 ak, .slice A m ca, .int .i64 an] 39)).drew = W at hW hq hIW ⊢
              clear hI hW c1 c2 c3
              obtain ⟨hRW, hFW, hBW, hSW⟩ := hIW
              obtain ⟨hcl, _, _⟩ := hRW.le
              have s1 : ∀ x : Later [] W, x.w.cell? ⟨wr.heap.size, 2, none⟩ = some (.int .i64 an) := fun x => (hq.only x.h (by simp)).cell 2
              refine region_seg [true, true, true, false, true, true, true] 3 (by kernel_rfl) (by kernel_rfl) (by kernel_rfl) rfl (fun _ _ d _ _ h => by cases d <;> exact h) ?_
              repeat (first | with_reducible refine wpMask_pass ?_ | (refine wpMask_want (by rfl) (fun K hK => ?_); go_big_quiet_op; refine hK _ ?_; clear hK K))
              with_reducible refine wpMask_nil ?_
              refine region_call 3 (by kernel_rfl) rfl (by rfl) (by go_simp; exact ⟨rfl, rfl⟩) ?_
              refine (consume_c_bad hRW an (by omega)).mono ?_
              rintro e w' ⟨rfl, rfl⟩
              refine ⟨_, rfl, Only.refl _ _, ?_⟩
              simp only [List.getElem_toArray, List.getElem_cons_zero, List.getElem_cons_succ, Act.put, List.setIfInBounds_toArray, List.set_cons_zero, List.set_cons_succ]
              refine region_call 7 (by kernel_rfl) rfl (by rfl) (by go_simp; exact ⟨rfl, rfl⟩) ?_
              refine (ref_consume_bad hFW an (by omega)).mono ?_
              rintro e W5 ⟨rfl, he5⟩
              subst he5
              refine ⟨_, rfl, Only.refl _ _, ?_⟩
              simp only [List.getElem_toArray, List.getElem_cons_zero, List.getElem_cons_succ, Act.put, List.setIfInBounds_toArray, List.set_cons_zero, List.set_cons_succ]
              refine region_seg [false, false, false, false, false, false, false, false, true] 0 (by kernel_rfl) (by kernel_rfl) (by kernel_rfl) rfl (fun _ _ d _ _ h => by cases d <;> exact h) ?_
              repeat (first | with_reducible refine wpMask_pass ?_ | (refine wpMask_want (by rfl) (fun K hK => ?_); go_big_quiet_op; refine hK _ ?_; clear hK K))
              with_reducible refine wpMask_nil ?_
              refine region_end (by kernel_rfl) ?_
              obtain ⟨c5, hI5⟩ : ∃ c5, MatchInv w r bb mr N W c5 := ⟨_, hRW, hFW, hBW, hSW⟩
              clear s1 hRW hFW hq hBW
              go_wp2_with fail
              refine region_begin (T := []) (by kernel_rfl) ?_
              have hJ := hI5.only ((Only.refl [] W).drew)
              clear hI5
              generalize W.drew = V at hJ ⊢
              obtain ⟨hRV, hFV, hBV, hSV⟩ := hJ
              obtain ⟨hcl5, _, _⟩ := hRV.le
              obtain ⟨L, hL⟩ : ∃ L, L = c5.length := ⟨_, rfl⟩
              obtain ⟨C, cc, hbk, hcc, hccm, hrC, hC⟩ := hFV
              rw [← hL] at hbk hcc hrC hC hcl5
              obtain ⟨f, hf⟩ : ∃ f, f + L = N := ⟨N - L, by omega⟩
              have t0 : ∀ x : Later [] V, x.w.cell? ⟨mr, 0, none⟩ = some (.slice C L cc) := fun x => (hbk.only x.h (by simp)).cell 0
              have t1 : ∀ x : Later [] V, x.w.cell? ⟨mr, 1, none⟩ = some (.int .i64 N) := fun x => (hbk.only x.h (by simp)).cell 1
              have t2 : ∀ x : Later [] V, StrAt x.w C L cc c5 := fun x => strAt_of (hrC.only' x.h (Nat.le_refl _) (by simp)) cc
              unfold StrAt at t2
              have hs1 : IntKind.i64.wrap ((N : Int) - (L : Int)) = (f : Int) := by rw [IntWalk.i64_in _ (by omega)]; omega
              have hs2 : wrap64 ((N : Int) - (L : Int)) = (f : Int) := by rw [IntWalk.wrap64_in _ (by omega)]; omega
              have hs3 : (N : Int) - (L : Int) = (f : Int) := by omega
              have HL := Lib.hid hL
              have HF := Lib.hid hf
              clear hL hf
              refine region_seg [true, false, true, true, true, true, true] 39 (by kernel_rfl) (by kernel_rfl) (by kernel_rfl) rfl (fun _ _ d _ _ h => by cases d <;> exact h) ?_
              repeat (first | with_reducible refine wpMask_pass ?_ | (refine wpMask_want (by rfl) (fun K hK => ?_); go_big_quiet_op; refine hK _ ?_; clear hK K))
              with_reducible refine wpMask_nil ?_
              refine region_call 1 (by kernel_rfl) rfl (by rfl) (by go_simp; exact ⟨rfl, rfl⟩) ?_
              refine (len_c hRV L HL.out).mono ?_
              rintro e w' ⟨rfl, rfl⟩
              refine ⟨_, rfl, Only.refl _ _, ?_⟩
              simp only [List.getElem_toArray, List.getElem_cons_zero, List.getElem_cons_succ, Act.put, List.setIfInBounds_toArray, List.set_cons_zero, List.set_cons_succ]
              refine region_seg [false, false, false, false, false, false, false, true, true, true, false, true, true, true, true] 31 (by kernel_rfl) (by kernel_rfl) (by kernel_rfl) rfl (fun _ _ d _ _ h => by cases d <;> exact h) ?_
              repeat (first | with_reducible refine wpMask_pass ?_ | (refine wpMask_want (by rfl) (fun K hK => ?_); go_big_quiet_op; refine hK _ ?_; clear hK K))
              with_reducible refine wpMask_nil ?_
              refine region_call 10 (by kernel_rfl) rfl (by rfl) (by go_simp; exact ⟨rfl, rfl⟩) ?_
              refine (cap_c hRV).mono ?_
              rintro e w' ⟨rfl, rfl⟩
              refine ⟨_, rfl, Only.refl _ _, ?_⟩
              simp only [List.getElem_toArray, List.getElem_cons_zero, List.getElem_cons_succ, Act.put, List.setIfInBounds_toArray, List.set_cons_zero, List.set_cons_succ]
              refine region_seg [false, false, false, false, false, false, false, false, false, false, false, false, false, false, false, true, true, true, true, false, true, true, true, true, true, true, true, true, true, true] 16 (by kernel_rfl) (by kernel_rfl) (by kernel_rfl) rfl (fun _ _ d _ _ h => by cases d <;> exact h) ?_
              repeat (first | with_reducible refine wpMask_pass ?_ | (refine wpMask_want (by rfl) (fun K hK => ?_); go_big_quiet_op; refine hK _ ?_; clear hK K))
              with_reducible refine wpMask_nil ?_
              refine region_call 19 (by kernel_rfl) rfl (by rfl) (by go_simp; exact ⟨rfl, rfl⟩) ?_
              refine (free_c hRV f (by rw [← HL.out]; exact HF.out)).mono ?_
              rintro e w' ⟨rfl, rfl⟩
              refine ⟨_, rfl, Only.refl _ _, ?_⟩
              simp only [List.getElem_toArray, List.getElem_cons_zero, List.getElem_cons_succ, Act.put, List.setIfInBounds_toArray, List.set_cons_zero, List.set_cons_succ]
              refine region_seg [false, false, false, false, false, false, false, false, false, false, false, false, false, false, false, false, false, false, false, false, false, false, false, false, false, false, false, false, false, false, true, true, true, true, true, false, false, false, true, true, true, true, true] 5 (by kernel_rfl) (by kernel_rfl) (by kernel_rfl) rfl (fun _ _ d _ _ h => by cases d <;> exact h) ?_
              repeat (first | with_reducible refine wpMask_pass ?_ | (refine wpMask_want (by rfl) (fun K hK => ?_); go_big_quiet_op; refine hK _ ?_; clear hK K))
              with_reducible refine wpMask_nil ?_
              refine region_call 35 (by kernel_rfl) rfl (by rfl) (by go_simp; exact ⟨rfl, rfl⟩) ?_
              refine (len_c hRV L HL.out).mono ?_
              rintro e w' ⟨rfl, rfl⟩
              refine ⟨_, rfl, Only.refl _ _, ?_⟩
              simp only [List.getElem_toArray, List.getElem_cons_zero, List.getElem_cons_succ, Act.put, List.setIfInBounds_toArray, List.set_cons_zero, List.set_cons_succ]
              refine region_call 36 (by kernel_rfl) rfl (by rfl) (by go_simp; exact ⟨rfl, rfl⟩) ?_
              refine (peek_c hRV (L : Int) L (by rw [← HL.out]; omega)).mono ?_
              rintro e V2 ⟨g2, rfl, hg2, hB2, hO2⟩
              refine ⟨_, rfl, hO2, ?_⟩
              simp only [List.getElem_toArray, List.getElem_cons_zero, List.getElem_cons_succ, Act.put, List.setIfInBounds_toArray, List.set_cons_zero, List.set_cons_succ]
              rw [List.take_of_length_le (by rw [← HL.out]; exact Nat.le_refl _)] at hB2
              have t3 : ∀ x : Later [] V2, StrAt x.w (some ⟨g2, 0, none⟩) L L c5 := fun x => strAt_of (by have hb := hB2.only x.h (by simp); have := Reads.of_blk hb 0 L (by rw [vbs_length, ← HL.out]; omega) hb.lt; rw [List.drop_zero, List.take_of_length_le (by rw [vbs_length, ← HL.out]; omega)] at this; exact this) L
              unfold StrAt at t3
              clear t0 t1 t2 hs1 hs2 hs3
              refine region_seg [false, false, false, false, false, false, false, false, false, false, false, false, false, false, false, false, false, false, false, false, false, false, false, false, false, false, false, false, false, false, false, false, false, false, false, false, false, true, false, false, false, false, false, true, true] 0 (by kernel_rfl) (by kernel_rfl) (by kernel_rfl) rfl (fun _ _ d _ _ h => by cases d <;> exact h) ?_
              repeat (first | with_reducible refine wpMask_pass ?_ | (refine wpMask_want (by rfl) (fun K hK => ?_); go_big_quiet_op; refine hK _ ?_; clear hK K))
              with_reducible refine wpMask_nil ?_
              refine region_end (by kernel_rfl) ?_
              have hJ2 : MatchInv w r bb mr N V2 c5 := MatchInv.only ⟨hRV, ⟨C, cc, by rw [← HL.out]; exact hbk, by rw [← HL.out]; exact hcc, hccm, by rw [← HL.out]; exact hrC, by rw [← HL.out]; exact hC⟩, hBV, hSV⟩ hO2
              clear t3 hB2 hRV hbk hrC hC hO2
              go_wp2_with fail
              go_roundw
              case rel => exact ⟨k + 1, c5, by omega, by go_num, hJ2⟩
              case measure => simp [intOf]; omega
      · go_wp2_with (go_at_call 16; refine (alive_any _).mono ?_; rintro e w4 ⟨rfl, hO4⟩)
        go_ret
        exact ⟨rfl, Only.below hI.below hO4 hI.below.size (by simp)⟩

end Go.Proofs.Ytjlmmibokppkgaa
