/-
  Contracts of the functions of package dechunk that parse nothing, continued.
-/
import Derived.Test.YtfchkaoifbcgkaaDoorDec
import Derived.Test.YtfchkaoifbcgkaaDoorKept
namespace Go.Proofs.YtfchkaoifbcgkaaDoor
open Go.RowKit Go.BigFrame
set_option linter.unusedVariables false
set_option linter.unusedSimpArgs false
attribute [local go_sem ↓] sliced_cut run_min2 run_max2
attribute [local go_sem] cutA_zero

/-- A block of one value, just made, read. -/
theorem one_reads (w : World) (t : TypeId) (v : Value) : Reads (w.alloc (.cells #[v] t)) (w.heap.size + 1) (some ⟨w.heap.size, 0, none⟩) 1 [v] :=
  Reads.of_blk (Blk.new w t [v]) 0 1 (by simp) (Nat.lt_succ_self _)

theorem one_int (k : IntKind) (n : Int) : ∀ u ∈ [Value.int k n], u.oneCell' = true := by
  intro u hu
  simp only [List.mem_singleton] at hu
  subst hu
  rfl

section
variable {w w1 w2 w' : World} {T : List Nat} {r : Nat} {s s' : DSt} {o e o' e' : Nat} {A : Option Addr} {a : Nat} {S : Option Addr} {z : Nat} {Y : Option Addr} {y : Nat}
theorem notin_one {r : Nat} {U : List Nat} (h : r ∉ U) : ∀ k, k ∈ U → k ∉ [r] := fun k hk hk' => by
  obtain rfl : k = r := by simpa using hk'
  exact h hk
/-- The payload grown, numbers of the head written. -/
theorem dec_pay (h : DecAt w T r s o e A a S z Y y) (hO1 : Only [] w w1) (hO2 : Only (rowT Y) w1 w2) (hO3 : Only [r] w2 w') {N : Nat} {Y2 : Option Addr} {y2 : Nat} (hR : RowAt w2 5 Y2 N y2 (vbs s'.pay))
    (hk : ∀ k, k ∈ rowT Y2 → k ∈ rowT Y ∨ w1.heap.size ≤ k) (hl : s'.line = s.line) (hs : s'.sizes = s.sizes)
    (hb : Blk w' r 54 [.int .i64 s'.place, .slice A s.line.length a, .int .i64 s'.miss, .slice S s.sizes.length z, .slice Y2 N y2, .int .i64 o', .int .i64 e']) :
    Turned (Dc r s' o' e') w T w' := by
  have hN : N = s'.pay.length := by have := hR.len; rw [vbs_length] at this; exact this.symm
  subst hN
  have h1 := hO1.size
  have hO12 : Only (rowT Y) w w2 := (hO1.more (by simp)).trans hO2
  have hrY2 : r ∉ rowT Y2 := hR.ne_blk ((h.head.only hO12 h.neY)) (by decide)
  have hall : Only T w w' := (hO12.more h.inY).trans (hO3.more (fun k hk => by obtain rfl : k = r := by simpa using hk
                                                                               exact h.inR))
  have hYk : ∀ k, k ∈ rowT Y2 → k ∈ rowT Y ∨ w.heap.size ≤ k := fun k hk' => (hk k hk').imp id (fun h => Nat.le_trans h1 h)
  obtain ⟨p, l, m, zz, yy⟩ := s'
  simp only at hl hs
  subst hl hs
  refine dec_turn h hall hb ((h.line.only hO12 h.apart).only hO3 (notin_one h.neA)) ((h.sizes.only hO12 h.neSY).only hO3 (notin_one h.neS)) (hR.only hO3 (notin_one hrY2)) (fun k hk1 hk2 => ?_) (fun k hk => .inl (h.inA k hk)) (fun k hk => .inl (h.inS k hk)) (fun k hk' => (hYk k hk').imp (h.inY k) id)
  rcases hYk k hk2 with h3 | h3
  · exact h.apart k hk1 h3
  · have := h.line.lt k hk1; omega
/-- The sizes grown, the line gone, numbers of the head written. -/
theorem dec_sizes {wa : World} (h : DecAt w T r s o e A a S z Y y) (hOa : Only [r] w wa) (hO1 : Only [] wa w1) (hO2 : Only (rowT S) w1 w2) (hO3 : Only [r] w2 w') {N : Nat} {S2 : Option Addr} {z2 : Nat} (hR : RowAt w2 3 S2 N z2 (vis (nats s'.sizes)))
    {cs2 : List Value} (hb2 : Blk w2 r 54 cs2) (hk : ∀ k, k ∈ rowT S2 → k ∈ rowT S ∨ w1.heap.size ≤ k) (hl : s'.line = []) (hy : s'.pay = s.pay)
    (hb : Blk w' r 54 [.int .i64 s'.place, .slice none 0 0, .int .i64 s'.miss, .slice S2 N z2, .slice Y s.pay.length y, .int .i64 o', .int .i64 e']) :
    Turned (Dc r s' o' e') w T w' := by
  have hN : N = s'.sizes.length := by have := hR.len; rw [vis_length, nats_length] at this; exact this.symm
  subst hN
  have h1 := hOa.size
  have h2 := hO1.size
  have hO12 : Only (rowT S) wa w2 := (hO1.more (by simp)).trans hO2
  have hrS2 : r ∉ rowT S2 := hR.ne_blk hb2 (by decide)
  have hr : ∀ k, k ∈ [r] → k ∈ T := fun k hk => by
    obtain rfl : k = r := by simpa using hk
    exact h.inR
  have hall : Only T w w' := ((hOa.more hr).trans (hO12.more h.inS)).trans (hO3.more hr)
  have hSk : ∀ k, k ∈ rowT S2 → k ∈ rowT S ∨ w.heap.size ≤ k := fun k hk' => (hk k hk').imp id (fun h => Nat.le_trans h1 (Nat.le_trans h2 h))
  obtain ⟨p, l, m, zz, yy⟩ := s'
  simp only at hl hy
  subst hl hy
  exact dec_turn h hall hb (RowAt.nil _ _) (hR.only hO3 (notin_one hrS2)) (((h.pay.only hOa (notin_one h.neY)).only hO12 (fun k hk hk' => h.neSY k hk' hk)).only hO3 (notin_one h.neY)) (by simp [rowT]) (by simp [rowT]) (fun k hk' => (hSk k hk').imp (h.inS k) id) (fun k hk => .inl (h.inY k hk))
/-- The line appended to, whatever the head then says of it. -/
theorem dec_line (h : DecAt w T r s o e A a S z Y y) (hO1 : Only [] w w1) (hO2 : Only (rowT A) w1 w2) (hO3 : Only [r] w2 w') {N : Nat} {A2 : Option Addr} {a2 : Nat} (hR : RowAt w2 5 A2 N a2 (vbs s'.line))
    (hk : ∀ k, k ∈ rowT A2 → k ∈ rowT A ∨ w1.heap.size ≤ k) (hs : s'.sizes = s.sizes) (hy : s'.pay = s.pay)
    (hb : Blk w' r 54 [.int .i64 s'.place, .slice A2 N a2, .int .i64 s'.miss, .slice S s.sizes.length z, .slice Y s.pay.length y, .int .i64 o', .int .i64 e']) :
    Turned (Dc r s' o' e') w T w' := by
  have hN : N = s'.line.length := by have := hR.len; rw [vbs_length] at this; exact this.symm
  subst hN
  have h1 := hO1.size
  have hO12 : Only (rowT A) w w2 := (hO1.more (by simp)).trans hO2
  have hrA2 : r ∉ rowT A2 := hR.ne_blk ((h.head.only hO12 h.neA)) (by decide)
  have hall : Only T w w' := (hO12.more h.inA).trans (hO3.more (fun k hk => by obtain rfl : k = r := by simpa using hk
                                                                               exact h.inR))
  have hAk : ∀ k, k ∈ rowT A2 → k ∈ rowT A ∨ w.heap.size ≤ k := fun k hk' => (hk k hk').imp id (fun h => Nat.le_trans h1 h)
  obtain ⟨p, l, m, zz, yy⟩ := s'
  simp only at hs hy
  subst hs hy
  refine dec_turn h hall hb (hR.only hO3 (notin_one hrA2)) ((h.sizes.only hO12 (fun k hk hk' => h.neAS k hk' hk)).only hO3 (notin_one h.neS)) ((h.pay.only hO12 (fun k hk hk' => h.apart k hk' hk)).only hO3 (notin_one h.neY)) (fun k hk1 hk2 => ?_) (fun k hk' => (hAk k hk').imp (h.inA k) id) (fun k hk => .inl (h.inS k hk)) (fun k hk => .inl (h.inY k hk))
  rcases hAk k hk1 with h3 | h3
  · exact h.apart k h3 hk2
  · have := h.pay.lt k hk2; omega
end

/-! ### acceptPayload -/
set_option maxRecDepth 100000 in
set_option maxHeartbeats 1600000 in
theorem payload_c {w : World} {T : List Nat} {r : Nat} {s : DSt} {o e : Nat} (h : Dc r s o e w T) (c : UInt8) (hm : 0 < s.miss) (hm2 : s.miss ≤ 65536) (hp : s.pay.length ≤ 1000000) (h2 : s.place = 2) (m1 q : Nat) (hm1 : m1 = s.miss - 1) (hq : q = if m1 = 0 then 3 else 2) :
    Calls Tryd.prog 37 #[.pointer (some ⟨r, 0, none⟩), .int .u8 (c.toNat : Int)] w fun e' w' => e' = .returned (.tuple #[]) ∧
      Turned (Dc r ⟨q, s.line, m1, s.sizes, s.pay ++ [c]⟩ o e) w T w' := by
  obtain ⟨A, a, S, z, Y, y, h⟩ := h
  obtain ⟨i0, hi, hz0, hz1, hz2⟩ := info_parts info_byte
  have c4 := h.head.cell 4
  have H := Lib.hid h
  have hrow := Lib.hid (h.pay.alloc (.cells #[.int .u8 (c.toNat : Int)] 5))
  have hsrc := Lib.hid (one_reads w 5 (.int .u8 (c.toNat : Int)))
  obtain ⟨n, hn⟩ : ∃ n, n = s.pay.length := ⟨_, rfl⟩
  rw [← hn] at hp
  simp only [List.getElem?_cons_succ, List.getElem?_cons_zero] at c4
  rw [← hn] at c4 hrow
  have HN := Lib.hid hn
  have hb1 := Lib.hid (show n + 1 ≤ maxLen by unfold maxLen; omega)
  have hb2 := Lib.hid (show (n + 1) * 1 ≤ 140737488355328 by omega)
  have hO0 : Hid (Only [] w (w.alloc (.cells #[.int .u8 (c.toNat : Int)] 5))) := Lib.hid ((Only.refl [] w).alloc _)
  have h1u := Lib.hid (one_int .u8 (c.toNat : Int))
  have hsub : IntKind.i64.wrap ((s.miss : Int) - 1) = (m1 : Int) := by rw [wrap_small _ (by omega) (by omega)]; omega
  clear h hn
  have HP2 := Lib.hid h2
  have HO0 := Lib.hid (show ∀ k, k ∈ rowT Y → k ∈ T from H.out.inY)
  have hm1b : m1 ≤ 65536 := by omega
  have hcase : (m1 = 0 ∧ q = 3) ∨ (((m1 : Int) == 0) = false ∧ q = 2) := by
    by_cases h0 : m1 = 0
    · exact .inl ⟨h0, by rw [hq, if_pos h0]⟩
    · exact .inr ⟨by rw [beq_eq_false_iff_ne]; omega, by rw [hq, if_neg h0]⟩
  clear hm1 hm hm2 h2 hq
  rcases hcase with ⟨rfl, rfl⟩ | ⟨h0, rfl⟩
  all_goals
    go_enter Tryd.func37, Tryd.ntmps37
    go_wp2_with (first | (with_reducible refine wp_rowAppend rfl (.tmp 8) (.tmp 10) 26 rfl 5 i0 _ 1 Tryd.underlying26 hi hz0 hz1 hz2 rfl Y n y (vbs s.pay) rfl hrow.out (w.heap.size + 1) (some ⟨w.heap.size, 0, none⟩) 1 1 [.int .u8 (c.toNat : Int)] rfl hsrc.out h1u.out hb1.out hb2.out (n + 1) rfl ?_; intro Y2 y2 w2 HR2 hO2 HK2; have HO2 := Lib.hid hO2; have HB2 := Lib.hid ((H.out.head.only hO0.out (by simp)).only hO2 H.out.neY); have d4 := HB2.out.cell 4; have f4 := HB2.out.free 4; have d2 := HB2.out.cell 2; have f2 := HB2.out.free 2; have d0 := HB2.out.cell 0; have f0 := HB2.out.free 0; clear hO2; simp only [List.getElem?_cons_succ, List.getElem?_cons_zero] at d4 d2 d0))
    go_end0
    refine ⟨rfl, ?_⟩
    try refine dec_pay H.out hO0.out HO2.out ((((Only.refl [r] w2).setCell (.inl (by simp)) _).setCell (.inl (by simp)) _).setCell (.inl (by simp)) _) (by rw [vbs_append]; exact HR2.out) HK2.out rfl rfl (by have := ((HB2.out.set_ 4 (.slice Y2 (n + 1) y2)).set_ 2 (.int .i64 0)).set_ 0 (.int .i64 3); simpa using this)
  refine dec_pay H.out hO0.out HO2.out (((Only.refl [r] w2).setCell (.inl (by simp)) _).setCell (.inl (by simp)) _) (by rw [vbs_append]; exact HR2.out) HK2.out rfl rfl (by have := (HB2.out.set_ 4 (.slice Y2 (n + 1) y2)).set_ 2 (.int .i64 (m1 : Int)); simpa [HP2.out] using this)

/-! ### beginChunk -/
set_option maxRecDepth 100000 in
set_option maxHeartbeats 1600000 in
theorem begin_ch {w : World} {T : List Nat} {r : Nat} {s : DSt} {o e : Nat} (h : Dc r s o e w T) (v : Nat) (hz : s.sizes.length ≤ 1000000) (q : Nat) (hq : q = if v = 0 then 3 else 2) :
    Calls Tryd.prog 43 #[.pointer (some ⟨r, 0, none⟩), .int .i64 (v : Int)] w fun e' w' => e' = .returned (.tuple #[]) ∧
      Turned (Dc r ⟨q, [], v, s.sizes ++ [v], s.pay⟩ o e) w T w' := by
  obtain ⟨A, a, S, z, Y, y, h⟩ := h
  obtain ⟨i0, hi, hz0, hz1, hz2⟩ := info_parts info_int
  have c1 := h.head.cell 1
  have f1 := h.head.free 1
  have hB1 := Lib.hid (h.head.set_ 1 (.slice none 0 0))
  have c3 := h.head.cell 3
  have H := Lib.hid h
  have hOa : Hid (Only [r] w (w.setCell ⟨r, 1, none⟩ (.slice none 0 0))) := Lib.hid ((Only.refl _ w).setCell (.inl (by simp)) _)
  have hrow := Lib.hid ((h.sizes.only hOa.out (notin_one h.neS)).alloc (.cells #[.int .i64 (v : Int)] 3))
  have hsrc0 := one_reads (w.setCell ⟨r, 1, none⟩ (.slice none 0 0)) 3 (.int .i64 (v : Int))
  rw [show (w.setCell ⟨r, 1, none⟩ (.slice none 0 0)).heap.size = w.heap.size by simp [World.setCell]] at hsrc0
  have hsrc := Lib.hid hsrc0
  clear hsrc0
  obtain ⟨n, hn⟩ : ∃ n, n = s.sizes.length := ⟨_, rfl⟩
  rw [← hn] at hz
  simp only [List.getElem?_cons_succ, List.getElem?_cons_zero] at c3 c1
  rw [← hn] at c3 hrow
  have HN := Lib.hid hn
  have hb1 := Lib.hid (show n + 1 ≤ maxLen by unfold maxLen; omega)
  have hb2 := Lib.hid (show (n + 1) * 8 ≤ 140737488355328 by omega)
  have hO0 : Hid (Only [] (w.setCell ⟨r, 1, none⟩ (.slice none 0 0)) ((w.setCell ⟨r, 1, none⟩ (.slice none 0 0)).alloc (.cells #[.int .i64 (v : Int)] 3))) := Lib.hid ((Only.refl [] _).alloc _)
  have h1u := Lib.hid (one_int .i64 (v : Int))
  have hcase : (((v : Int) == 0) = true ∧ q = 3) ∨ (((v : Int) == 0) = false ∧ q = 2) := by
    by_cases h0 : v = 0
    · exact .inl ⟨by rw [beq_iff_eq]; omega, by rw [hq, if_pos h0]⟩
    · exact .inr ⟨by rw [beq_eq_false_iff_ne]; omega, by rw [hq, if_neg h0]⟩
  have hvis : Hid (vis (nats (s.sizes ++ [v])) = vis (nats s.sizes) ++ [.int .i64 (v : Int)]) := Lib.hid (by rw [nats_append, vis_append]; rfl)
  obtain ⟨vi, hvi⟩ : ∃ vi : Int, vi = (v : Int) := ⟨_, rfl⟩
  rw [← hvi] at hcase hrow hsrc hO0 h1u hvis
  rw [← hvi]
  have HVI := Lib.hid hvi
  clear h hn hq hvi
  rcases hcase with ⟨h0, rfl⟩ | ⟨h0, rfl⟩
  all_goals
    go_enter Tryd.func43, Tryd.ntmps43
    go_wp2_with (first | (with_reducible refine wp_rowAppend rfl (.tmp 11) (.tmp 13) 28 rfl 3 i0 _ 8 Tryd.underlying28 hi hz0 hz1 hz2 rfl S n z (vis (nats s.sizes)) rfl hrow.out (w.heap.size + 1) (some ⟨w.heap.size, 0, none⟩) 1 1 [.int .i64 vi] rfl hsrc.out h1u.out hb1.out hb2.out (n + 1) rfl ?_; intro S2 z2 w2 HR2 hO2 HK2; have HO2 := Lib.hid hO2; have HB2 := Lib.hid ((hB1.out.only hO0.out (by simp)).only hO2 H.out.neS); have d3 := HB2.out.cell 3; have f3 := HB2.out.free 3; have d2 := HB2.out.cell 2; have f2 := HB2.out.free 2; have d0 := HB2.out.cell 0; have f0 := HB2.out.free 0; clear hO2; simp only [List.set_cons_succ, List.set_cons_zero, List.getElem?_cons_succ, List.getElem?_cons_zero] at d3 d2 d0))
    go_end0
    refine ⟨rfl, ?_⟩
    have hR3 := HR2.out
    rw [← hvis.out] at hR3
  · refine dec_sizes H.out hOa.out hO0.out HO2.out ((((Only.refl [r] w2).setCell (.inl (by simp)) _).setCell (.inl (by simp)) _).setCell (.inl (by simp)) _ |>.setCell (.inl (by simp)) _) hR3 HB2.out HK2.out rfl rfl (by have := (((HB2.out.set_ 3 (.slice S2 (n + 1) z2)).set_ 2 (.int .i64 vi)).set_ 0 (.int .i64 2)).set_ 0 (.int .i64 3); rw [HVI.out] at this ⊢; simpa using this)
  · refine dec_sizes H.out hOa.out hO0.out HO2.out ((((Only.refl [r] w2).setCell (.inl (by simp)) _).setCell (.inl (by simp)) _).setCell (.inl (by simp)) _) hR3 HB2.out HK2.out rfl rfl (by have := ((HB2.out.set_ 3 (.slice S2 (n + 1) z2)).set_ 2 (.int .i64 vi)).set_ 0 (.int .i64 2); rw [HVI.out] at this ⊢; simpa using this)
end Go.Proofs.YtfchkaoifbcgkaaDoor
