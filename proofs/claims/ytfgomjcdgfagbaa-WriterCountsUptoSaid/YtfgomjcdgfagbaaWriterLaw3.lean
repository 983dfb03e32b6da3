/-
  The law WriterFailureIsSticky, walked.
-/
import Derived.Test.YtfgomjcdgfagbaaWriterLaw2
namespace Go.Proofs.Ytfgomjcdgfagbaa
open Go.ChangeShapes Go.WideShapes Go.RowKit Go.BigFrame
set_option linter.unusedVariables false
set_option linter.unusedSimpArgs false
attribute [local go_sem ↓] sliced_cut run_min2 run_max2
attribute [local go_sem] cutA_zero

/-- The pieces that came in. -/
def PiecesIn (w : World) (a : Option Addr) (len cap : Nat) (ps : List PieceV) : Prop := PiecesAt w w.heap.size a len ps ∧ len ≤ cap ∧ cap ≤ maxLen ∧ ∀ p, p ∈ ps → p.m ≤ reachBytes
theorem open_T23 {H : Type} {enc : TypeId × Value → H} {w : World} {a : Option Addr} {len cap : Nat} {d : DataW H} {p : List MemPlace} (h : DataW.Trod enc Try.prog w 0 (fun _ => true) true 23 (.slice a len cap) d p)
    (hz : ∀ n, n ∈ d.weights Try.prog 23 → n ≤ reachBytes) : ∃ ps, PiecesIn w a len cap ps := by
  obtain ⟨h1, h2, ps, h3, h4⟩ := pieces_of_trod Try.underlying23 Try.underlying29 (by kernel_rfl) Try.underlying5 (by kernel_rfl) h
  exact ⟨ps, h3, h1, h2, h4.reach Try.underlying23 Try.underlying29 (by kernel_rfl) hz⟩
theorem PiecesIn.sum {w : World} {a : Option Addr} {len cap : Nat} {ps : List PieceV} (h : PiecesIn w a len cap ps) : len ≤ 300 → total ps ≤ 9223372036854775807 := by
  intro hl
  have h1 := total_take_le ps len _ h.2.2.2
  rw [List.take_of_length_le (by rw [h.1.1]; omega)] at h1
  unfold reachBytes at h1
  omega
theorem total_mem {ps : List PieceV} {p : PieceV} (h : p ∈ ps) : p.m ≤ total ps := by
  induction ps with
  | nil => cases h
  | cons q ps ih =>
    simp only [total, List.map_cons, List.sum_cons]
    rcases List.mem_cons.1 h with rfl | h
    · omega
    · have := ih h
      simp only [total] at this
      omega

theorem extend_since {w0 w : World} {r : Nat} {s : WSt} (h : Since w0 w r s) {X : Option Addr} {m c : Nat} {ns : List Int} {B : Nat} (hr : Reads w B X m (vis ns)) (hm : s.left.length + m ≤ 17592186044416) :
    Calls Try.prog 9 #[.pointer (some ⟨r, 0, none⟩), .slice X m c] w fun e w' => e = .returned (.tuple #[]) ∧ Since w0 w' r { s with left := s.left ++ ns } := by
  obtain ⟨T, hW, hT, bl⟩ := h
  refine (extend_c hW hr hm).mono ?_
  rintro e w' ⟨rfl, hB⟩
  exact ⟨rfl, hB.next bl hT⟩

theorem write_fresh {w0 w : World} {r : Nat} {s : WSt} (h : Since w0 w r s) (b : List UInt8) (C : Array Value) (hC : C = (vbs b).toArray) (fr : Nat × Nat) {m cap : Nat} (hm : m = b.length) (n e : Nat) (s' : WSt) (hs : wstep s b = (n, e, s')) (hq : s.calls < 70368744177664)
    (hmc : m ≤ cap) (hcm : cap ≤ maxLen) (hsum : s.acc.length + m ≤ 70368744177664) :
    Calls Try.prog 10 #[.pointer (some ⟨r, 0, none⟩), .slice (some ⟨w.heap.size, 0, none⟩) m cap] (w.alloc (.cells C 5 fr)) fun e' w' => e' = .returned (.tuple #[.int .i64 n, .int .i64 e]) ∧ Since w0 w' r s' := by
  subst hm
  obtain ⟨T, hW, hT, bl⟩ := h
  refine (write_to (hW.alloc _) (Reads.fresh w b C hC 5 fr (w.heap.size + 1) (by omega)) n e s' hs hq (by simp) hmc hcm hW.new hsum).mono ?_
  rintro e' w' ⟨rfl, hB⟩
  exact ⟨rfl, hB.next (bl.alloc bl.size _) hT⟩

theorem wstep_le (s : WSt) (b : List UInt8) : (wstep s b).2.2.acc.length ≤ s.acc.length + b.length ∧ (wstep s b).2.2.calls ≤ s.calls + 1 ∧ (wstep s b).2.2.left.length ≤ s.left.length := by
  unfold wstep
  split
  · simp
  · split
    · simp
    · rename_i h
      split <;> simp [h] <;> omega

/-- What holds behind i of the law's n + 1 writes over the schedule L, which ends with a failure. -/
structure Stuck (L : List Int) (n i : Nat) (s : WSt) : Prop where
  acc : s.acc.length ≤ i
  calls : s.calls ≤ i
  left : s.left.length ≤ n + 1
  either : s.failed = true ∨ (s.left = L.drop i ∧ i ≤ n)
theorem Stuck.step {L : List Int} {n i : Nat} {s : WSt} (h : Stuck L n i s) (hL : L.length = n + 1) (hn : L[n]? = some (-1)) {c : UInt8} : Stuck L n (i + 1) (wstep s [c]).2.2 := by
  obtain ⟨h1, h2, h3⟩ := wstep_le s [c]
  refine ⟨?_, ?_, Nat.le_trans h3 h.left, ?_⟩
  · have := h.acc
    simp at h1
    omega
  · have := h.calls
    omega
  · rcases h.either with hf | ⟨hl, hi⟩
    · left
      unfold wstep
      rw [if_pos hf]
      exact hf
    · unfold wstep
      split
      · rename_i hf
        exact .inl hf
      · have hd : L.drop i = L[i]'(by omega) :: L.drop (i + 1) := List.drop_eq_getElem_cons (by omega)
        rw [hl, hd]
        simp only
        split
        · exact .inl rfl
        · rename_i hx
          refine .inr ⟨rfl, ?_⟩
          have : i ≠ n := by
            rintro rfl
            rw [List.getElem?_eq_getElem (by omega)] at hn
            injection hn with hn
            omega
          omega

set_option maxRecDepth 100000 in
set_option maxHeartbeats 2000000 in
theorem sticky_walk (S : Option Addr) (n c : Nat) (l : List Int) (X : Option Addr) (k d : Nat) (ps : List PieceV) (w : World) (hs : l.length = n ∧ n ≤ c ∧ c ≤ maxLen ∧ Reads w w.heap.size S n (l.map (Value.int .i64)) ∧ ∀ z ∈ l, (Lit.int .i64 z).wf = true)
    (hp : PiecesIn w X k d ps) :
    Calls Try.prog 4 #[.slice S n c, .slice X k d] w fun e w' => e = .returned (.bool true) ∧ Below w.heap.size w w' := by
  have kc := fun (w : World) (C : Array Value) (n c : Nat) => Lib.run_convert_bytes_const (P := Try.prog) w 29 5 C n c Try.underlying29 Try.underlying5
  obtain ⟨hl, hnc, hcm, hrd, hwf⟩ := hs
  obtain ⟨hP, hkd, hdm, hreach⟩ := hp
  have HL := Lib.hid hl
  have HTL := Lib.hid (tooLarge_any (S := S) (n := n) (c := c) hP (PiecesIn.sum ⟨hP, hkd, hdm, hreach⟩) hnc hcm hkd hdm)
  have HRD : Hid (Reads w w.heap.size S n (vis l)) := hrd
  have HP := Lib.hid hP
  have hdm' := hdm
  have hcm' := hcm
  unfold maxLen at hdm' hcm'
  clear hl hrd hwf hP hreach
  go_enter Try.func4, Try.ntmps4
  go_wp2_with fail
  refine HTL.out.mono ?_
  rintro e w1 ⟨v, rfl, rfl, hsm⟩
  cases v
  case true =>
    clear hsm
    go_wp2_with (go_at_call 15; refine (alive_any _).mono ?_; rintro e w2 ⟨rfl, hO2⟩)
    go_ret
    exact ⟨rfl, only_nil_below hO2⟩
  case false =>
    obtain ⟨hn300, hk300, htot⟩ := hsm rfl
    clear hsm
    obtain ⟨i0, hi, hz0, hz1, hz2⟩ := info_parts info_int
    have hrow := Lib.hid (RowAt.of_blk (Blk.new w 3 []) (by simp))
    have hsrc := Lib.hid (HRD.out.only' ((Only.refl [] w).alloc (.cells #[] 3)) (Nat.le_refl _) (by simp))
    have hb1 := Lib.hid (show 0 + n ≤ maxLen by unfold maxLen; omega)
    have hb2 := Lib.hid (show (0 + n) * 8 ≤ 140737488355328 by omega)
    have hb3 := Lib.hid (show n + 1 ≤ maxLen by unfold maxLen; omega)
    have hb4 := Lib.hid (show (n + 1) * 8 ≤ 140737488355328 by omega)
    go_wp2_with (first
      | ((with_reducible refine wp_rowAppend rfl (.tmp 18) (.tmp 19) 22 rfl 3 i0 _ 8 Try.underlying22 hi hz0 hz1 hz2 rfl _ 0 0 [] rfl hrow.out w.heap.size S n c (vis l) rfl hsrc.out (vis_one _) hb1.out hb2.out n (Nat.zero_add n).symm ?_); intro A1 c1 w1 HR1 hO1 HK1; have hrow2 := Lib.hid (HR1.out.alloc (.cells #[.int .i64 (-1)] 3)); have hsrc2 : Hid (Reads (w1.alloc (.cells #[.int .i64 (-1)] 3)) (w1.heap.size + 1) (some ⟨w1.heap.size, 0, none⟩) 1 (vis [-1])) := Reads.freshInts w1 [-1] #[.int .i64 (-1)] (by rfl) 3 (0, 0) (w1.heap.size + 1) (by omega))
      | ((with_reducible refine wp_rowAppend rfl (.tmp 20) (.tmp 21) 22 rfl 3 i0 _ 8 Try.underlying22 hi hz0 hz1 hz2 rfl A1 n c1 _ rfl hrow2.out (w1.heap.size + 1) (some ⟨w1.heap.size, 0, none⟩) 1 1 (vis [-1]) rfl hsrc2.out (vis_one _) hb3.out hb4.out (n + 1) rfl ?_); intro A2 c2 w2 HR2 hO2 HK2))
    have bl1 : Below w.heap.size w w1 := ((only_nil_below ((Only.refl [] w).alloc (.cells #[] 3)))).trans (hO1.to_below (by simp) (by simp [rowT_some]))
    have bl2 : Below w.heap.size w w2 := (bl1.alloc bl1.size (.cells #[.int .i64 (-1)] 3)).trans (hO2.to_below (by have := bl1.size; simp; omega) (fun q hq => (HK1.out q hq).elim (fun h => by simp [rowT_some] at h; omega) (fun h => by simp at h; omega)))
    have hrd2 := HR2.out.reads
    rw [List.nil_append, ← vis_append] at hrd2
    refine (new_since hrd2 (Nat.le_refl _) (by omega) bl2).mono ?_
    rintro e w3 ⟨r, rfl, hW3, _⟩
    obtain ⟨L, hLd⟩ : ∃ L, L = l ++ [-1] := ⟨_, rfl⟩
    rw [← hLd] at hW3
    have hLL : L.length = n + 1 := by rw [hLd, List.length_append, HL.out]; rfl
    have hLn : L[n]? = some (-1) := by rw [hLd, List.getElem?_append_right (by rw [HL.out]; omega), HL.out]; simp
    have hst : Stuck L n 0 ⟨[], L, 0, false⟩ := ⟨by simp, by simp, by simp [hLL], .inr ⟨by simp, Nat.zero_le _⟩⟩
    have HLL := Lib.hid hLL
    have HLN := Lib.hid hLn
    clear hLd hLL hLn hrow hsrc hb1 hb2 hb3 hb4 HR1 hO1 HK1 HR2 hO2 HK2 bl1 bl2 hrd2 hrow2 hsrc2
    go_wp2_with fail
    go_loopw [29] (fun i wr => ∃ (j : Nat) (s : WSt), j ≤ n + 1 ∧ i = .int .i64 j ∧ Since w wr r s ∧ Stuck L n j s) (fun i _ => n + 1 - (intOf i).toNat)
    case atStart => exact ⟨0, _, Nat.zero_le _, rfl, hW3, hst⟩
    case round =>
      clear hW3 hst
      obtain ⟨j, s, hj, rfl, hI, hst⟩ := hrel
      by_cases hlt : j < n + 1
      · have hlt' : (j : Int) < (n : Int) + 1 := by omega
        have h1 := hst.acc
        have h2 := hst.calls
        have hst1 := hst.step HLL.out HLN.out (c := 120)
        generalize hst' : wstep s [120] = o at hst1
        obtain ⟨n1, e1, s1⟩ := o
        have HW := Lib.hid (write_fresh hI [120] #[.int .u8 120] (by rfl) (1, 2) (m := 1) (cap := 1) rfl n1 e1 s1 hst' (by omega) (by omega) (by decide) (by omega))
        have HS := Lib.hid hst1
        clear hst hst1 hst' hI
        go_wp2_with fail
        refine HW.out.mono ?_
        rintro e w4 ⟨rfl, hW4⟩
        go_wp2_with fail
        go_roundw
        case rel => exact ⟨j + 1, s1, by omega, by go_num, hW4, HS.out⟩
        case measure => simp [intOf]; omega
      · have hlt' : ¬ (j : Int) < (n : Int) + 1 := by omega
        have hf : s.failed = true := hst.either.elim id (fun h => by omega)
        have h1 := hst.acc
        have h2 := hst.calls
        have h3 := hst.left
        obtain ⟨acc, left, q, f⟩ := s
        simp only at hf h1 h2 h3
        subst hf
        obtain ⟨al, hal⟩ : ∃ al, al = acc.length := ⟨_, rfl⟩
        have HA := Lib.hid hal
        have h1' : al ≤ 301 := by omega
        have h2' : q ≤ 301 := by omega
        have h3' : left.length ≤ 301 := by omega
        clear hst hal h1 h2 h3
        go_wp2_with fail
        refine region_begin (T := []) (by kernel_rfl) ?_
        have hWD := hI.only ((Only.refl [] wr).drew)
        clear hI
        generalize wr.drew = W3 at hWD ⊢
        refine region_seg [true, false, false, true] 5 (by kernel_rfl) (by kernel_rfl) (by kernel_rfl) rfl (fun _ _ d _ _ h => by cases d <;> exact h) ?_
        repeat (first | with_reducible refine wpMask_pass ?_ | (refine wpMask_want (by rfl) (fun K hK => ?_); go_big_quiet_op; refine hK _ ?_; clear hK K))
        with_reducible refine wpMask_nil ?_
        refine region_call 1 (by kernel_rfl) rfl (by rfl) (by go_simp; exact ⟨rfl, rfl⟩) ?_
        refine (bytes_since hWD al HA.out).mono ?_; rintro e w5 ⟨G, gd, rfl, hG, hO5⟩; refine ⟨_, rfl, hO5, ?_⟩
        simp only [List.getElem_toArray, List.getElem_cons_zero, List.getElem_cons_succ, Act.put, List.setIfInBounds_toArray, List.set_cons_zero, List.set_cons_succ]
        have s2 := fun x : Later [] w5 => strAt_of (hG.only' x.h (Nat.le_refl _) (by simp)) gd
        unfold StrAt at s2
        have hW5 := hWD.only hO5
        refine region_seg [false, false, true] 3 (by kernel_rfl) (by kernel_rfl) (by kernel_rfl) rfl (fun _ _ d _ _ h => by cases d <;> exact h) ?_
        repeat (first | with_reducible refine wpMask_pass ?_ | (refine wpMask_want (by rfl) (fun K hK => ?_); go_big_quiet_op; refine hK _ ?_; clear hK K))
        with_reducible refine wpMask_nil ?_
        refine region_call 4 (by kernel_rfl) rfl (by rfl) (by go_simp; exact ⟨rfl, rfl⟩) ?_
        refine (calls_since hW5 q rfl).mono ?_; rintro e _ ⟨rfl, rfl⟩; refine ⟨_, rfl, Only.refl _ _, ?_⟩
        simp only [List.getElem_toArray, List.getElem_cons_zero, List.getElem_cons_succ, Act.put, List.setIfInBounds_toArray, List.set_cons_zero, List.set_cons_succ]
        refine region_seg [false, false, false, false, false, true, true] 0 (by kernel_rfl) (by kernel_rfl) (by kernel_rfl) rfl (fun _ _ d _ _ h => by cases d <;> exact h) ?_
        repeat (first | with_reducible refine wpMask_pass ?_ | (refine wpMask_want (by rfl) (fun K hK => ?_); go_big_quiet_op; refine hK _ ?_; clear hK K))
        with_reducible refine wpMask_nil ?_
        refine region_end (by kernel_rfl) ?_
        clear s2 hG hWD
        go_wp2_with fail
        go_loopw [43] (fun i wr => ∃ j : Nat, j ≤ k ∧ i = .int .i64 j ∧ Since w wr r ⟨acc, left, q, true⟩) (fun i _ => k - (intOf i).toNat)
        case atStart => exact ⟨0, Nat.zero_le _, rfl, hW5⟩
        case round =>
          clear hW5
          obtain ⟨i, hik, rfl, hI⟩ := hrel
          by_cases hlt2 : i < k
          · obtain ⟨p, g, o, hp, rfl, hg, hcell, hat⟩ := (HP.out.below hI.below).piece hlt2
            obtain ⟨pA, pm, pc, pb⟩ := p
            obtain ⟨a1, a2, a3, a4⟩ := hat
            have hpm := total_mem (List.mem_of_getElem? hp)
            simp only at hcell a1 a2 a3 a4 hpm
            have HW := Lib.hid (write_since hI a4 0 9 _ (wstep_failed pb) (by simp; omega) a2 a3 (by simp only; rw [← HA.out]; omega))
            unfold maxLen at a3
            clear hp a1 a4 hI
            go_wp2_with fail
            refine HW.out.mono ?_
            rintro e w6 ⟨rfl, hW6⟩
            go_wp2_with fail
            go_roundw
            case rel => exact ⟨i + 1, by omega, by go_num, hW6⟩
            case measure => simp [intOf]; omega
          · go_wp2_with fail
            refine (extend_since (hI.only ((Only.refl [] wr).alloc _)) (ns := [5, 5]) (B := wr.heap.size + 1) (Reads.freshInts wr [5, 5] #[.int .i64 5, .int .i64 5] (by rfl) 3 (0, 0) (wr.heap.size + 1) (by omega)) (by simp; omega)).mono ?_
            rintro e w6 ⟨rfl, hW6⟩
            go_wp2_with fail
            refine (write_fresh hW6 [121] #[.int .u8 121] (by rfl) (1, 2) (m := 1) (cap := 1) rfl 0 9 _ (wstep_failed _) (by simp; omega) (by omega) (by decide) (by simp only; rw [← HA.out]; omega)).mono ?_
            rintro e w7 ⟨rfl, hW7⟩
            go_wp2_with (first
              | (go_at_call 15; refine (alive_since hW7).mono ?_; rintro e w8 ⟨rfl, hO8, hW8⟩)
              | (go_at_call 11; refine (bytes_since hW8 al HA.out).mono ?_; rintro e w9 ⟨G, gd, rfl, hG, hO9⟩; have s2 := strAt_of hG gd; unfold StrAt at s2; have hW9 := hW8.only hO9)
              | (go_at_call 12; refine (calls_since hW9 q rfl).mono ?_; rintro e w' ⟨rfl, rfl⟩))
            go_ret
            exact ⟨rfl, hW9.below⟩

end Go.Proofs.Ytfgomjcdgfagbaa
