/-
  The law DefinesLimits, walked.
-/
import Derived.Test.YtkipmaoeejdncaaDoorIi14
import Derived.Test.YtkipmaoeejdncaaDoorTabs
namespace Go.Proofs.YtkipmaoeejdncaaDoor
open Go.RowKit Go.BigFrame NT
set_option linter.unusedVariables false
set_option linter.unusedSimpArgs false

theorem u8_range14 {a : Int} (h : (Lit.int .u8 a).wf = true) : 0 ≤ a ∧ a ≤ 255 := by
  simp [Lit.wf, IntKind.min, IntKind.max, IntKind.signed, IntKind.bits] at h
  omega
def fI14 (n : Nat) : List Value := [.int .i64 (n : Int)]
theorem fI14_len (n : Nat) : (fI14 n).length = 1 := rfl
theorem fI14_one (n : Nat) (u : Value) (h : u ∈ fI14 n) : u.oneCell' = true := by
  simp only [fI14, List.mem_cons, List.not_mem_nil, or_false] at h
  subst h
  rfl
theorem info_int14 : (Tryd.prog.info? 3).map (fun i => (i.zero, i.size, i.bytes)) = some (some (.int .i64 0), 1, 8) := by kernel_rfl
def strt (i : Nat) : List Nat := (List.range i).map fun j => (sdL 0 j).length
theorem strt_step (i : Nat) : strt i ++ [(sdL 0 i).length] = strt (i + 1) := by simp [strt, List.range_succ]
theorem strt_len (i : Nat) : (strt i).length = i := by simp [strt]
theorem strt_at {i j : Nat} (h : j < i) : (strt i)[j]? = some (sdL 0 j).length := by simp [strt, h]
/-- The state of the row of starts. -/
structure StAt (w wr : World) (A : Option Addr) (c i : Nat) : Prop where
  row : KRow wr 3 1 fI14 A c (strt i)
  fresh : ∀ k, k ∈ rowT A → w.heap.size ≤ k
  bel : Bel w wr
theorem StAt.later {w wr w2 : World} {A : Option Addr} {c i : Nat} (h : StAt w wr A c i) (hb : Bel wr w2) : StAt w w2 A c i :=
  ⟨h.row.only (bel_only hb) (by simp), h.fresh, h.bel.trans hb⟩
section
variable {w : World} {ops : Array Oper} {rest : List Oper} {o : Oper} {a : Act} {Q : Exit → Act → World → Prop}
theorem wp_st14 (hgd : o.guard = none) (s x : Operand) (ho : o.op = .call { callee := .builtin .append, args := #[s, x], argTypes := #[22, 22] })
    {w0 : World} {A : Option Addr} {i c : Nat} (hi : i ≤ 1000) (hA : StAt w0 w A c i) (hs : a.eval s = .slice A i c) (ob : Obj) (hx : a.eval x = .slice (some ⟨w.heap.size, 0, none⟩) 1 1) (hob : ob = .cells #[.int .i64 ((sdL 0 i).length : Int)] 3)
    (h : ∀ A' c' w', Hid (StAt w0 w' A' c' (i + 1)) → wpList Tryd.prog ops Q rest (a.put o.dst (.slice A' (i + 1) c')) w') :
    wpList Tryd.prog ops Q (o :: rest) a (w.alloc ob) := by
  subst hob
  have hS := hA.later (Bel.alloc w (.cells #[.int .i64 ((sdL 0 i).length : Int)] 3))
  refine wp_kAppend hgd s x 22 ho 3 _ 1 8 fI14 fI14_len fI14_one Tryd.underlying22 info_int14 rfl (by decide) A c (strt i) i (strt_len i) hs hS.row (some ⟨w.heap.size, 0, none⟩) 1 [(sdL 0 i).length] 1 rfl hx (src_blk (Blk.new w 3 [.int .i64 ((sdL 0 i).length : Int)]) (by rw [flat_one]; rfl)) (by unfold maxLen; omega) (by omega) (i + 1) rfl ?_
  intro A' c' w' h1 h2 h3
  have h1 := h1.out
  rw [strt_step] at h1
  refine h A' c' w' (Lib.hid ⟨h1, fun k hk => ?_, bel_onK14 hS.bel h2 hS.fresh⟩)
  rcases h3.out k hk with h4 | h4
  · exact hS.fresh k h4
  · have := hS.bel.size; omega
end
theorem names_of {m l : List NT} (h : ers m = l) : (namesN m).length = (namesN l).length := by rw [← h, namesN_ers]
theorem check_of {m l : List NT} (h : ers m = l) : checkN m = checkN l := by rw [← h, checkN_ers]
set_option maxRecDepth 100000 in
set_option maxHeartbeats 6400000 in
theorem lmLaw (a b : Int) (w : World) (hT : Tabs w) (ha : (Lit.int .u8 a).wf = true) (hb : (Lit.int .u8 b).wf = true) :
    Calls Tryd.prog 3 #[.int .u8 a, .int .u8 b] w fun e w' => e = .returned (.bool true) ∧ Below w.heap.size w w' := by
  obtain ⟨h0, h1⟩ := u8_range14 ha
  obtain ⟨g0, g1⟩ := u8_range14 hb
  obtain ⟨k, hr⟩ : ∃ r : Nat, (r : Int) = a.tmod 70 := ⟨(a.tmod 70).toNat, by rw [Int.toNat_of_nonneg (Int.tmod_nonneg 70 h0)]⟩
  have hk70 : k < 70 := by have := Int.tmod_lt_of_pos a (b := 70) (by decide); omega
  have e1 : IntKind.i64.wrap a = a := IntWalk.i64_in _ (by omega)
  have e2 : a.tmod 70 = (k : Int) := hr.symm
  have e4 : IntKind.i64.wrap (k : Int) = (k : Int) := IntWalk.i64_in _ (by omega)
  have e5 : IntKind.i64.wrap b = b := IntWalk.i64_in _ (by omega)
  have HAL := Lib.hid (fun W => alive_c W)
  have HSR := Lib.hid (sd_src (k := k) (by omega))
  have HSP := Lib.hid HSR.out.parsed
  clear ha hb hr hT h0 h1
  go_enter Tryd.func3, Tryd.ntmps3
  go_wp2_with fail
  go_loopw [6, 7, 16] (fun s6 s7 s16 wr => ∃ (i : Nat) (A : Option Addr) (c : Nat), i ≤ k ∧ s16 = .int .i64 i ∧ s6 = .string (ofL (sdL 0 i)) ∧ s7 = .slice A i c ∧ Hid (StAt w wr A c i)) (fun _ _ s16 _ => k - (intOf s16).toNat)
  case atStart => exact ⟨0, none, 0, Nat.zero_le _, rfl, rfl, rfl, Lib.hid ⟨KRow.nil _ _ _ _, by simp [rowT], Bel.refl _⟩⟩
  case round =>
    obtain ⟨i, A, c, hi, rfl, rfl, rfl, HS⟩ := hrel
    by_cases hlt : i < k
    · have hi70 : i < 70 := by omega
      have HIT := Lib.hid (fun W => itoa14 i (by omega) W)
      have hcat := cat_def i hi70
      have hsz := sdL_len i 0
      have hds := decB_size hi70
      have hsz2 : (ofL (sdL 0 i)).size = (sdL 0 i).length := rfl
      obtain ⟨x, hx⟩ : ∃ x, x = ofL (sdL 0 i) := ⟨_, rfl⟩
      obtain ⟨y, hy⟩ : ∃ y, y = decB i := ⟨_, rfl⟩
      rw [← hx] at hcat hsz2 ⊢
      rw [← hy] at hcat hds HIT
      have HCAT := Lib.hid hcat
      have hxs : x.size ≤ 2000 := by omega
      have hobj : (.int .i64 (x.size : Int) : Value) = .int .i64 ((sdL 0 i).length : Int) := by rw [hsz2]
      have HOB := Lib.hid hobj
      clear hx hy hcat hsz hsz2 hobj
      go_wp2_with (first
        | ((with_reducible refine wp_st14 rfl (.tmp 19) (.tmp 22) rfl (by omega) HS.out rfl _ rfl (by rw [← HOB.out]) ?_); intro A2 c2 w2 HS2)
        | (go_at_call 5; ((with_reducible refine (HIT.out _).mono ?_); rintro e w3 ⟨rfl, rfl⟩)))
      go_roundw
      case rel => exact ⟨i + 1, A2, c2, by omega, by go_num, by rw [HCAT.out], rfl, HS2⟩
      case measure => simp [intOf]; omega
    · obtain rfl : i = k := by omega
      have hsz := sdL_len i 0
      have HSZ : Hid ((ofL (sdL 0 i)).size = (sdL 0 i).length) := Lib.hid rfl
      have HPC := Lib.hid (fun W => HSR.out.call W)
      have HCT := Lib.hid (fun (j : Nat) (hj : j < 70) => cat_twice i j hj)
      obtain ⟨x, hx⟩ : ∃ x, x = ofL (sdL 0 i) := ⟨_, rfl⟩
      rw [← hx] at HPC HSZ ⊢
      have hxs : x.size ≤ 2000 := by have := HSZ.out; omega
      have HX := Lib.hid hx
      by_cases h64 : 64 < i
      · have hi64 : (64 : Int) < (i : Int) := by omega
        obtain ⟨g, o, hA, hg, _⟩ := HS.out.row.at_ fI14_len (strt_at h64) (by decide)
        have HC64 : Hid (∀ W, Bel wr W → W.cell? ⟨g, o + 64, none⟩ = some (.int .i64 ((sdL 0 64).length : Int))) := Lib.hid fun W hb => by
          obtain ⟨g', o', hA', _, hc⟩ := (HS.out.later hb).row.at_ fI14_len (strt_at h64) (by decide)
          rw [hA] at hA'
          injection hA' with hA'
          injection hA' with q1 q2
          subst q1 q2
          exact hc 0 _ rfl
        subst hA
        have hmany := sd_many h64 (by omega)
        generalize (sdL 0 64).length = p at hmany HC64
        have HMN := Lib.hid hmany
        clear hmany hx hg hsz
        go_wp2_with (first
          | (go_at_call 7; ((with_reducible refine (HPC.out _).mono ?_); rintro e w1 hp; obtain ⟨hb, A1, c1, m1, rfl, hr, he⟩ := hp.row; have HB1 := Lib.hid hb; have HE1 := Lib.hid he; have HX1 := Lib.hid hr; have HT1 := Lib.hid (tots_of he HSP.out); clear hp he hr hb))
          | (go_at_call 6; ((with_reducible refine (dcheck_c HX1.out HT1.out).mono ?_); rintro e w2 ⟨hb, rfl⟩; rw [check_of HE1.out, HMN.out]; have HB2 := Lib.hid (HB1.out.trans hb); clear hb))
          | (go_at_call 8; ((with_reducible refine (HAL.out _).mono ?_); rintro e w3 ⟨rfl, hb⟩; have HB3 := Lib.hid (HB2.out.trans hb); have c64 := HC64.out _ HB3.out; clear hb)))
        go_ret
        exact ⟨rfl, HS.out.bel.trans HB3.out⟩
      · have hi64 : ¬ (64 : Int) < (i : Int) := by omega
        have HOK := Lib.hid (sd_ok (k := i) (by omega))
        have HNL := Lib.hid (sd_names_len i 0 0)
        by_cases h0 : i = 0
        · have hi0 : ((i : Int) == 0) = true := by rw [h0]; rfl
          have hi0' : (i : Int) = 0 := by omega
          clear hx hsz h0
          go_wp2_with (first
            | (go_at_call 7; ((with_reducible refine (HPC.out wr).mono ?_); rintro e w1 hp; obtain ⟨hb, A1, c1, m1, rfl, hr, he⟩ := hp.row; have HB1 := Lib.hid hb; have HE1 := Lib.hid he; have HX1 := Lib.hid hr; have HT1 := Lib.hid (tots_of he HSP.out); clear hp he hr hb))
            | (go_at_call 6; ((with_reducible refine (dcheck_c HX1.out HT1.out).mono ?_); rintro e w2 ⟨hb, rfl⟩; rw [check_of HE1.out, HOK.out]; have HB2 := Lib.hid (HB1.out.trans hb); clear hb))
            | (go_at_call 7; ((with_reducible refine (HPC.out w2).mono ?_); rintro e w3 hp; obtain ⟨hb, A3, c3, m3, rfl, hr, he⟩ := hp.row; have HB3 := Lib.hid (HB2.out.trans hb); have HE3 := Lib.hid he; have HX3 := Lib.hid hr; have HT3 := Lib.hid (tots_of he HSP.out); clear hp he hr hb))
            | (go_at_call 9; ((with_reducible refine (dnames_c HX3.out HT3.out).mono ?_); rintro e w4 ⟨hb, A4, c4, rfl, _, _, _⟩; rw [names_of HE3.out, HNL.out]; have HB4 := Lib.hid (HB3.out.trans hb); clear hb))
            | (go_at_call 8; ((with_reducible refine (HAL.out _).mono ?_); rintro e w5 ⟨rfl, hb⟩; have HB5 := Lib.hid (HB4.out.trans hb); clear hb)))
          go_ret
          exact ⟨rfl, HS.out.bel.trans HB5.out⟩
        · have hi0 : ((i : Int) == 0) = false := by simpa using h0
          have hi0' : ¬ (i : Int) = 0 := by omega
          obtain ⟨j, hj⟩ : ∃ j : Nat, (j : Int) = b.tmod (i : Int) := ⟨(b.tmod (i : Int)).toNat, by rw [Int.toNat_of_nonneg (Int.tmod_nonneg _ g0)]⟩
          have hji : j < i := by have := Int.tmod_lt_of_pos b (b := (i : Int)) (by omega); omega
          have e6 : b.tmod (i : Int) = (j : Int) := hj.symm
          have e7 : IntKind.i64.wrap (j : Int) = (j : Int) := IntWalk.i64_in _ (by omega)
          have HS2 := Lib.hid (sd_twice (k := i) (j := j) (by omega) (by omega))
          have HPT := Lib.hid (fun W => HS2.out.call W)
          have HSQ := Lib.hid HS2.out.parsed
          have hct := HCT.out j (by omega)
          have HDP : Hid (checkN (sdN 0 0 i ++ [nd (defT (sdL 0 i).length j) false [] []]) = ((x.size : Int), 12)) := Lib.hid (by rw [HSZ.out]; exact sd_dup (k := i) (j := j) (by omega) hji)
          have hds := decB_size (i := j) (by omega)
          have HIT := Lib.hid (fun W => itoa14 j (by omega) W)
          rw [← hx] at hct
          rw [← hct] at HPT
          obtain ⟨y, hy⟩ : ∃ y, y = decB j := ⟨_, rfl⟩
          rw [← hy] at hds HPT HIT
          clear hx hsz h0 hj hct hy
          go_wp2_with (first
            | (go_at_call 7; ((with_reducible refine (HPC.out wr).mono ?_); rintro e w1 hp; obtain ⟨hb, A1, c1, m1, rfl, hr, he⟩ := hp.row; have HB1 := Lib.hid hb; have HE1 := Lib.hid he; have HX1 := Lib.hid hr; have HT1 := Lib.hid (tots_of he HSP.out); clear hp he hr hb))
            | (go_at_call 6; ((with_reducible refine (dcheck_c HX1.out HT1.out).mono ?_); rintro e w2 ⟨hb, rfl⟩; rw [check_of HE1.out, HOK.out]; have HB2 := Lib.hid (HB1.out.trans hb); clear hb))
            | (go_at_call 7; ((with_reducible refine (HPC.out w2).mono ?_); rintro e w3 hp; obtain ⟨hb, A3, c3, m3, rfl, hr, he⟩ := hp.row; have HB3 := Lib.hid (HB2.out.trans hb); have HE3 := Lib.hid he; have HX3 := Lib.hid hr; have HT3 := Lib.hid (tots_of he HSP.out); clear hp he hr hb))
            | (go_at_call 9; ((with_reducible refine (dnames_c HX3.out HT3.out).mono ?_); rintro e w4 ⟨hb, A4, c4, rfl, _, _, _⟩; rw [names_of HE3.out, HNL.out]; have HB4 := Lib.hid (HB3.out.trans hb); clear hb))
            | (go_at_call 5; ((with_reducible refine (HIT.out _).mono ?_); rintro e w5 ⟨rfl, rfl⟩))
            | (go_at_call 7; ((with_reducible refine (HPT.out _).mono ?_); rintro e w6 hp; obtain ⟨hb, A6, c6, m6, rfl, hr, he⟩ := hp.row; have HB6 := Lib.hid (HB4.out.trans hb); have HE6 := Lib.hid he; have HX6 := Lib.hid hr; have HT6 := Lib.hid (tots_of he HSQ.out); clear hp he hr hb))
            | (go_at_call 6; ((with_reducible refine (dcheck_c HX6.out HT6.out).mono ?_); rintro e w7 ⟨hb, rfl⟩; rw [check_of HE6.out, HDP.out]; have HB7 := Lib.hid (HB6.out.trans hb); clear hb))
            | (go_at_call 8; ((with_reducible refine (HAL.out _).mono ?_); rintro e w8 ⟨rfl, hb⟩; have HB8 := Lib.hid (HB7.out.trans hb); clear hb)))
          go_ret
          exact ⟨rfl, HS.out.bel.trans HB8.out⟩
end Go.Proofs.YtkipmaoeejdncaaDoor
