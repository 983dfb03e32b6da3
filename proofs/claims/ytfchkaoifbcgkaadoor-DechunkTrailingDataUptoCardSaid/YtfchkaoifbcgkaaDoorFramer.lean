/-
  Contracts of the functions of package framer, one a function (Encode apart).
-/
import Derived.Test.YtfchkaoifbcgkaaDoorClone
import Derived.Test.YtfchkaoifbcgkaaDoorConcat
import Derived.Test.YtfchkaoifbcgkaaDoorHexFormat
import Derived.Test.YtfchkaoifbcgkaaDoorChunk
import Derived.Test.YtfchkaoifbcgkaaDoorThing
namespace Go.Proofs.YtfchkaoifbcgkaaDoor
open Go.RowKit Go.BigFrame
set_option linter.unusedVariables false
set_option linter.unusedSimpArgs false
attribute [local go_sem ↓] sliced_cut run_min2 run_max2
attribute [local go_sem] cutA_zero

theorem Tz.below {w w' : World} {B : Nat} (h : Tz w) (hb : Below B w w') (hB : w.heap.size ≤ B) : Tz w' := h.only (show Only [] w w' from ⟨hb.os, hb.tape, hb.output, hb.size, fun k hk _ => hb.block k (Nat.lt_of_lt_of_le hk hB)⟩)

/-- A framer (of type t: the program's or the reference's) at block r, its blocks among T. -/
structure FramerAt (t : TypeId) (w : World) (T : List Nat) (r : Nat) (s : FSt) (A : Option Addr) (c : Nat) : Prop where
  head : Blk w r t [.int .i64 s.most, .slice A s.pend.length c, .bool s.fin]
  row : RowAt w 5 A s.pend.length c (vbs s.pend)
  inR : r ∈ T
  inA : ∀ k, k ∈ rowT A → k ∈ T
  lt : ∀ k, k ∈ T → k < w.heap.size
  most : 1 ≤ s.most ∧ s.most ≤ 65536
  pend : s.pend.length ≤ 65545
  ne : t ≠ 5
/-- As a thing. -/
def Fr (t : TypeId) (r : Nat) (s : FSt) : World → List Nat → Prop := fun w T => ∃ A c, FramerAt t w T r s A c
theorem FramerAt.only {t : TypeId} {w w' : World} {T S : List Nat} {r : Nat} {s : FSt} {A : Option Addr} {c : Nat} (h : FramerAt t w T r s A c) (ho : Only S w w') (hS : ∀ k, k ∈ T → k ∉ S) : FramerAt t w' T r s A c :=
  ⟨h.head.only ho (hS _ h.inR), h.row.only ho (fun k hk => hS _ (h.inA k hk)), h.inR, h.inA, fun k hk => Nat.lt_of_lt_of_le (h.lt k hk) ho.size, h.most, h.pend, h.ne⟩
theorem fr_thing (t : TypeId) (r : Nat) (s : FSt) : IsThing (Fr t r s) :=
  ⟨fun ⟨A, c, h⟩ ho hS => ⟨A, c, h.only ho hS⟩, fun ⟨A, c, h⟩ => h.lt⟩
theorem FramerAt.neA {t : TypeId} {w : World} {T : List Nat} {r : Nat} {s : FSt} {A : Option Addr} {c : Nat} (h : FramerAt t w T r s A c) : r ∉ rowT A := h.row.ne_blk h.head h.ne
/-- The pending bytes replaced. -/
theorem turned_pend {t : TypeId} {w w1 : World} {T : List Nat} {r n : Nat} {s : FSt} {A : Option Addr} {c : Nat} (h : FramerAt t w T r s A c) (hO : Only [] w w1) {A' : Option Addr} {c' : Nat} {l : List UInt8}
    (hR : RowAt w1 5 A' n c' (vbs l)) (hn : n = l.length) (hk : ∀ k, k ∈ rowT A' → k ∈ T ∨ w.heap.size ≤ k) (hl : l.length ≤ 65545) :
    Turned (Fr t r ⟨s.most, l, s.fin⟩) w T (w1.setCell ⟨r, 1, none⟩ (.slice A' n c')) := by
  subst hn
  have hb := h.head.only hO (by simp)
  have hs := hO.size
  have e : (w1.setCell ⟨r, 1, none⟩ (.slice A' l.length c')).heap.size = w1.heap.size := by simp [World.setCell]
  refine ⟨T ++ rowT A', ⟨A', c', ?_, hR.far (by simpa using hR.ne_blk hb h.ne) _, by simp [h.inR], fun k hk => by simp [hk], fun k hk' => ?_, h.most, hl, h.ne⟩, fun k hk' => ?_, (hO.more (by simp)).setCell (.inl h.inR) _⟩
  · have := hb.set_ 1 (.slice A' l.length c')
    simpa using this
  · rw [e]
    rcases List.mem_append.1 hk' with h1 | h1
    · have := h.lt k h1; omega
    · exact hR.lt k h1
  · rcases List.mem_append.1 hk' with h1 | h1
    · exact .inl h1
    · exact hk k h1
theorem turned_fin {t : TypeId} {w : World} {T : List Nat} {r : Nat} {s : FSt} (h : Fr t r s w T) : Turned (Fr t r ⟨s.most, s.pend, true⟩) w T (w.setCell ⟨r, 2, none⟩ (.bool true)) := by
  obtain ⟨A, c, h⟩ := h
  refine ⟨T, ⟨A, c, ?_, h.row.far (by simpa using h.neA) _, h.inR, h.inA, fun k hk => by have := h.lt k hk; simpa [World.setCell] using this, h.most, h.pend, h.ne⟩, fun k hk => .inl hk, (Only.refl T w).setCell (.inl h.inR) _⟩
  have := h.head.set_ 2 (.bool true)
  simpa using this

/-! ### New -/
set_option maxRecDepth 100000 in
set_option maxHeartbeats 400000 in
theorem new_bad (w : World) {n : Int} (h : n < 1 ∨ 65536 < n) :
    Calls Tryd.prog 26 #[.int .i64 n] w fun e w' => e = .returned (.tuple #[.pointer none, .int .i64 3]) ∧ w = w' := by
  by_cases h1 : n < 1
  · clear h
    go_enter Tryd.func26, Tryd.ntmps26
    go_wp2
    go_ret2
    exact ⟨rfl, rfl⟩
  · have h2 : 65536 < n := by omega
    clear h
    go_enter Tryd.func26, Tryd.ntmps26
    go_wp2
    go_ret2
    exact ⟨rfl, rfl⟩
set_option maxRecDepth 100000 in
set_option maxHeartbeats 400000 in
theorem new_c (w : World) {n : Nat} (h1 : 1 ≤ n) (h2 : n ≤ 65536) :
    Calls Tryd.prog 26 #[.int .i64 n] w fun e w' => e = .returned (.tuple #[.pointer (some ⟨w.heap.size, 0, none⟩), .int .i64 0]) ∧ Fr 70 w.heap.size ⟨n, [], false⟩ w' [w.heap.size] ∧ Only [] w w' := by
  have h3 : ¬ (n : Int) < 1 := by omega
  have h4 : ¬ (65536 : Int) < (n : Int) := by omega
  have hF : Hid (Fr 70 w.heap.size ⟨n, [], false⟩ (w.alloc (.cells #[.int .i64 n, .slice none 0 0, .bool false] 70)) [w.heap.size]) := Lib.hid
    ⟨none, 0, Blk.new w 70 [.int .i64 n, .slice none 0 0, .bool false], RowAt.nil _ _, by simp, by simp [rowT], by simp, ⟨h1, h2⟩, by simp, by decide⟩
  clear h1 h2
  go_enter Tryd.func26, Tryd.ntmps26
  go_wp2
  go_ret2
  exact ⟨rfl, hF.out, (Only.refl [] w).alloc _⟩

/-! ### mayBegin -/
set_option maxRecDepth 100000 in
set_option maxHeartbeats 400000 in
theorem may_nil (w : World) :
    Calls Tryd.prog 34 #[.pointer none] w fun e w' => e = .returned (.int .i64 1) ∧ w = w' := by
  go_enter Tryd.func34, Tryd.ntmps34
  go_wp2
  go_ret
  exact ⟨rfl, rfl⟩
set_option maxRecDepth 100000 in
set_option maxHeartbeats 400000 in
theorem may_some {t : TypeId} {w : World} {T : List Nat} {r : Nat} {s : FSt} (h : Fr t r s w T) (e : Nat) (he : e = if s.busy then 4 else 0) :
    Calls Tryd.prog 34 #[.pointer (some ⟨r, 0, none⟩)] w fun e' w' => e' = .returned (.int .i64 e) ∧ w = w' := by
  obtain ⟨A, c, h⟩ := h
  have c1 := h.head.cell 1
  have c2 := h.head.cell 2
  by_cases h0 : 0 < s.pend.length
  · have h1 : (0 : Int) < (s.pend.length : Int) := by omega
    rw [if_pos (show s.busy from Or.inl h0)] at he
    subst he
    generalize s.pend.length = n at *
    clear h h0
    go_enter Tryd.func34, Tryd.ntmps34
    go_wp2
    go_ret
    exact ⟨rfl, rfl⟩
  · have h1 : s.pend.length = 0 := by omega
    rw [h1] at c1
    cases hf : s.fin with
    | true =>
      rw [hf] at c2
      rw [if_pos (show s.busy from Or.inr hf)] at he
      subst he
      clear h h0 h1 hf
      go_enter Tryd.func34, Tryd.ntmps34
      go_wp2
      go_ret
      exact ⟨rfl, rfl⟩
    | false =>
      rw [hf] at c2
      rw [if_neg (show ¬ s.busy from fun h => h.elim (fun h => by omega) (fun h => by rw [hf] at h; cases h))] at he
      subst he
      clear h h0 h1 hf
      go_enter Tryd.func34, Tryd.ntmps34
      go_wp2
      go_ret
      exact ⟨rfl, rfl⟩

/-! ### begin -/
theorem begin_pieces {w1 : World} {N : Nat} {A1 : Option Addr} {l1 c1 : Nat} {l : List UInt8} (h1 : Own w1 A1 l1 c1 l) {X : Option Addr} {m d : Nat} {b : List UInt8} (hX : Reads w1 N X m (vbs b)) (hN : N ≤ w1.heap.size) (hb : b.length = m) (hmd : m ≤ d) (hdm : d ≤ maxLen) :
    PiecesAt ((w1.alloc (.cells #[.int .u8 13, .int .u8 10] 5 (2, 3))).alloc (.cells #[.slice A1 l1 c1, .slice X m d, .slice (some ⟨w1.heap.size, 0, none⟩) 2 2] 26))
      ((w1.alloc (.cells #[.int .u8 13, .int .u8 10] 5 (2, 3))).alloc (.cells #[.slice A1 l1 c1, .slice X m d, .slice (some ⟨w1.heap.size, 0, none⟩) 2 2] 26)).heap.size (some ⟨w1.heap.size + 1, 0, none⟩) 3
      [⟨A1, l1, c1, l⟩, ⟨X, m, d, b⟩, ⟨some ⟨w1.heap.size, 0, none⟩, 2, 2, [13, 10]⟩] := by
  have hO : Only [] w1 ((w1.alloc (.cells #[.int .u8 13, .int .u8 10] 5 (2, 3))).alloc (.cells #[.slice A1 l1 c1, .slice X m d, .slice (some ⟨w1.heap.size, 0, none⟩) 2 2] 26)) := ((Only.refl [] w1).alloc _).alloc _
  have hnew := Blk.new (w1.alloc (.cells #[.int .u8 13, .int .u8 10] 5 (2, 3))) 26 [.slice A1 l1 c1, .slice X m d, .slice (some ⟨w1.heap.size, 0, none⟩) 2 2]
  have hfr := Reads.fresh w1 [13, 10] #[.int .u8 13, .int .u8 10] rfl 5 (2, 3) (w1.heap.size + 1) (by omega)
  refine ⟨rfl, fun _ => ⟨w1.heap.size + 1, 0, rfl, by simp, fun i p hp => ?_⟩, fun p hp => ?_⟩
  · have e : (w1.alloc (.cells #[.int .u8 13, .int .u8 10] 5 (2, 3))).heap.size = w1.heap.size + 1 := by simp
    rw [e] at hnew
    rw [hnew.cell, Nat.zero_add]
    match i, hp with
    | 0, hp => simp at hp; subst hp; rfl
    | 1, hp => simp at hp; subst hp; rfl
    | 2, hp => simp at hp; subst hp; rfl
    | i + 3, hp => simp at hp
  · simp only [List.mem_cons, List.not_mem_nil, or_false] at hp
    rcases hp with rfl | rfl | rfl
    · exact ⟨h1.1, h1.2.1, h1.2.2.1, (h1.2.2.2.only' hO (Nat.le_refl _) (by simp)).more hO.size⟩
    · exact ⟨hb, hmd, hdm, (hX.only' hO hN (by simp)).more (Nat.le_trans hN hO.size)⟩
    · exact ⟨rfl, Nat.le_refl _, (show 2 ≤ maxLen by unfold maxLen; omega), (hfr.only' ((Only.refl [] _).alloc _) (by simp) (by simp)).more (by simp)⟩
theorem begin_flat (A1 : Option Addr) (l1 c1 : Nat) (X : Option Addr) (m d : Nat) (b : List UInt8) (Y : Option Addr) (hb : b.length = m) : flat [⟨A1, l1, c1, hexLine m⟩, ⟨X, m, d, b⟩, ⟨Y, 2, 2, [13, 10]⟩] = chunkOf b := by
  subst hb
  simp [flat, chunkOf]
set_option maxRecDepth 100000 in
set_option maxHeartbeats 1600000 in
theorem begin_c {w : World} {T : List Nat} {r : Nat} {s : FSt} (h : Fr 70 r s w T) (hT : Tz w) {X : Option Addr} {m d : Nat} {b : List UInt8} (hb : Reads w w.heap.size X m (vbs b)) (hmd : m ≤ d) (hdm : d ≤ maxLen) (hm : m ≤ 65536) :
    Calls Tryd.prog 35 #[.pointer (some ⟨r, 0, none⟩), .slice X m d] w fun e w' => e = .returned (.tuple #[]) ∧ Turned (Fr 70 r ⟨s.most, chunkOf b, s.fin⟩) w T w' := by
  obtain ⟨A, c, h⟩ := h
  have hbl : b.length = m := by have := hb.1; rwa [vbs_length] at this
  have HC := Lib.hid (format_c hT hm)
  have HB := Lib.hid hb
  have HBL := Lib.hid hbl
  have H := Lib.hid h
  have kc := fun (w : World) (C : Array Value) (n c : Nat) => Lib.run_convert_bytes_const (P := Tryd.prog) w 26 5 C n c Tryd.underlying26 Tryd.underlying5
  clear hT hb hbl h
  go_enter Tryd.func35, Tryd.ntmps35
  go_wp2_with fail
  refine HC.out.mono ?_
  rintro e w1 ⟨A1, c1, rfl, ho1, hO1⟩
  have HO1 := Lib.hid hO1
  have HW1 := Lib.hid ho1
  clear hO1 ho1
  go_wp2_with fail
  have hP := begin_pieces (d := d) HW1.out (HB.out.only' HO1.out (Nat.le_refl _) (by simp)) HO1.out.size HBL.out hmd hdm
  have hl5 : (chunkOf b).length ≤ 65545 := by have h1 := chunkOf_le (p := b) (by rw [HBL.out]; exact hm); have h2 := HBL.out; omega
  have hfl := begin_flat A1 (hexLine m).length c1 X m d b (some ⟨w1.heap.size, 0, none⟩) HBL.out
  refine (concat_c hP (Nat.le_refl _) (Nat.le_refl _) (by unfold maxLen; omega) (by rw [hfl]; omega)).mono ?_
  rintro e w2 ⟨A2, d2, rfl, hR2, hk2, hO2⟩
  rw [hfl] at hR2 ⊢
  have hO := Lib.hid (HO1.out.trans (((((Only.refl [] w1).alloc (.cells #[.int .u8 13, .int .u8 10] 5 (2, 3))).alloc (.cells #[.slice A1 (hexLine m).length c1, .slice X m d, .slice (some ⟨w1.heap.size, 0, none⟩) 2 2] 26))).trans hO2))
  have hs := HO1.out.size
  have HR2 := Lib.hid hR2
  have hk := Lib.hid (show ∀ k, k ∈ rowT A2 → k ∈ T ∨ w.heap.size ≤ k from fun k hk' => .inr (by have := hk2 k hk'; simp at this; omega))
  have hfz := (H.out.head.only hO.out (by simp)).free 1
  have hce : w2.cell? ⟨r, 1, none⟩ = some (.slice A s.pend.length c) := (H.out.head.only hO.out (by simp)).cell 1
  have hl6 := Lib.hid hl5
  clear hO2 hR2 hk2 hfl hP hl5
  go_wp2_with fail
  go_end0
  exact ⟨rfl, turned_pend H.out hO.out HR2.out rfl hk.out hl6.out⟩

/-! ### Start -/
set_option maxRecDepth 100000 in
set_option maxHeartbeats 400000 in
theorem start_nil (w : World) (x : Value) :
    Calls Tryd.prog 29 #[.pointer none, x] w fun e w' => e = .returned (.int .i64 1) ∧ w = w' := by
  go_enter Tryd.func29, Tryd.ntmps29
  go_wp2_with (go_at_call 34; refine (may_nil _).mono ?_; rintro e w' ⟨rfl, rfl⟩)
  go_ret
  exact ⟨rfl, rfl⟩
set_option maxRecDepth 100000 in
set_option maxHeartbeats 800000 in
theorem start_c {w : World} {T : List Nat} {r : Nat} {s : FSt} (h : Fr 70 r s w T) (hT : Tz w) {X : Option Addr} {m d : Nat} {b : List UInt8} (hb : Reads w w.heap.size X m (vbs b)) (hmd : m ≤ d) (hdm : d ≤ maxLen)
    (e : Nat) (s' : FSt) (hs : startS s b = (e, s')) :
    Calls Tryd.prog 29 #[.pointer (some ⟨r, 0, none⟩), .slice X m d] w fun e' w' => e' = .returned (.int .i64 e) ∧ Turned (Fr 70 r s') w T w' := by
  have hbl : b.length = m := by have := hb.1; rwa [vbs_length] at this
  unfold startS at hs
  by_cases hbusy : s.busy
  · rw [if_pos hbusy] at hs
    obtain ⟨rfl, rfl⟩ := Prod.mk.inj hs
    have HM := Lib.hid (may_some h 4 (if_pos hbusy).symm)
    have HR := Lib.hid (Turned.refl h)
    clear h hT hb hs hbusy
    go_enter Tryd.func29, Tryd.ntmps29
    go_wp2_with (go_at_call 34; refine HM.out.mono ?_; rintro e w' ⟨rfl, rfl⟩)
    go_ret
    exact ⟨rfl, HR.out⟩
  · rw [if_neg hbusy] at hs
    have HM := Lib.hid (may_some h 0 (if_neg hbusy).symm)
    have c0 : w.cell? ⟨r, 0, none⟩ = some (.int .i64 s.most) := by obtain ⟨A, c, h⟩ := h; exact h.head.cell 0
    by_cases h0 : m = 0
    · rw [if_pos (.inl (by omega))] at hs
      obtain ⟨rfl, rfl⟩ := Prod.mk.inj hs
      have HR := Lib.hid (Turned.refl h)
      subst h0
      clear h hT hb hs hbusy
      go_enter Tryd.func29, Tryd.ntmps29
      go_wp2_with (go_at_call 34; refine HM.out.mono ?_; rintro e w' ⟨rfl, rfl⟩)
      go_ret
      exact ⟨rfl, HR.out⟩
    · have hm0 : ¬ (m : Int) = 0 := by omega
      have hmd' : d < 9223372036854775808 := by unfold maxLen at hdm; omega
      by_cases h1 : s.most < m
      · rw [if_pos (.inr (by omega))] at hs
        obtain ⟨rfl, rfl⟩ := Prod.mk.inj hs
        have HR := Lib.hid (Turned.refl h)
        have h2 : (s.most : Int) < (m : Int) := by omega
        clear h hT hb hs hbusy hbl
        go_enter Tryd.func29, Tryd.ntmps29
        go_wp2_with (go_at_call 34; refine HM.out.mono ?_; rintro e w' ⟨rfl, rfl⟩)
        go_ret
        exact ⟨rfl, HR.out⟩
      · rw [if_neg (by omega)] at hs
        obtain ⟨rfl, rfl⟩ := Prod.mk.inj hs
        have h2 : ¬ (s.most : Int) < (m : Int) := by omega
        have hm : m ≤ 65536 := by obtain ⟨A, c, h⟩ := h; have := h.most.2; omega
        have HC := Lib.hid (begin_c h hT hb hmd hdm hm)
        clear h hT hb hs hbusy hbl hm
        go_enter Tryd.func29, Tryd.ntmps29
        go_wp2_with (first | (go_at_call 34; refine HM.out.mono ?_; rintro e w' ⟨rfl, rfl⟩) | (go_at_call 35; refine HC.out.mono ?_; rintro e w2 ⟨rfl, hB⟩; have HB := Lib.hid hB; clear hB))
        go_ret
        exact ⟨rfl, HB.out⟩

/-! ### Finish -/
set_option maxRecDepth 100000 in
set_option maxHeartbeats 400000 in
theorem finish_nil (w : World) :
    Calls Tryd.prog 30 #[.pointer none] w fun e w' => e = .returned (.int .i64 1) ∧ w = w' := by
  go_enter Tryd.func30, Tryd.ntmps30
  go_wp2_with (go_at_call 34; refine (may_nil _).mono ?_; rintro e w' ⟨rfl, rfl⟩)
  go_ret
  exact ⟨rfl, rfl⟩
theorem Fr.head {t : TypeId} {r : Nat} {s : FSt} {w : World} {T : List Nat} (h : Fr t r s w T) : ∃ A c, Blk w r t [.int .i64 s.most, .slice A s.pend.length c, .bool s.fin] := by
  obtain ⟨A, c, h⟩ := h
  exact ⟨A, c, h.head⟩
set_option maxRecDepth 100000 in
set_option maxHeartbeats 800000 in
theorem finish_c {w : World} {T : List Nat} {r : Nat} {s : FSt} (h : Fr 70 r s w T) (hT : Tz w) (e : Nat) (s' : FSt) (hs : finishS s = (e, s')) :
    Calls Tryd.prog 30 #[.pointer (some ⟨r, 0, none⟩)] w fun e' w' => e' = .returned (.int .i64 e) ∧ Turned (Fr 70 r s') w T w' := by
  unfold finishS at hs
  by_cases hbusy : s.busy
  · rw [if_pos hbusy] at hs
    obtain ⟨rfl, rfl⟩ := Prod.mk.inj hs
    have HM := Lib.hid (may_some h 4 (if_pos hbusy).symm)
    have HR := Lib.hid (Turned.refl h)
    clear h hT hs hbusy
    go_enter Tryd.func30, Tryd.ntmps30
    go_wp2_with (go_at_call 34; refine HM.out.mono ?_; rintro e w' ⟨rfl, rfl⟩)
    go_ret
    exact ⟨rfl, HR.out⟩
  · rw [if_neg hbusy] at hs
    have HM := Lib.hid (may_some h 0 (if_neg hbusy).symm)
    obtain ⟨rfl, rfl⟩ := Prod.mk.inj hs
    have HC := Lib.hid (begin_c (X := none) (m := 0) (d := 0) (b := []) h hT (by simpa [vbs] using Reads.none_) (Nat.le_refl _) (Nat.zero_le _) (by omega))
    clear h hT hs hbusy
    go_enter Tryd.func30, Tryd.ntmps30
    go_wp2_with (first | (go_at_call 34; refine HM.out.mono ?_; rintro e w' ⟨rfl, rfl⟩) | (go_at_call 35; refine HC.out.mono ?_; rintro e w2 ⟨rfl, hB⟩; have HB := Lib.hid hB; obtain ⟨T2, hF2, _⟩ := hB; obtain ⟨A2, d2, hb2⟩ := hF2.head; have hc2 := hb2.cell 2; have hf2 := hb2.free 2; clear hF2 hb2))
    go_ret
    exact ⟨rfl, HB.out.trans fun T' h' => turned_fin h'⟩

/-! ### take -/
set_option maxRecDepth 100000 in
set_option maxHeartbeats 400000 in
theorem take_c {w : World} {T : List Nat} {r : Nat} {s : FSt} (h : Fr 70 r s w T) (n : Nat) (hn : n = s.pend.length) :
    Calls Tryd.prog 27 #[.pointer (some ⟨r, 0, none⟩)] w fun e w' => ∃ A c, e = .returned (.slice A n c) ∧ RowAt w' 5 A n c (vbs s.pend) ∧ (∀ k, k ∈ rowT A → k ∈ T) ∧
      Fr 70 r ⟨s.most, [], s.fin⟩ w' [r] ∧ Only [r] w w' := by
  obtain ⟨A, c, h⟩ := h
  subst hn
  have c1 := h.head.cell 1
  have f1 := h.head.free 1
  have H := Lib.hid h
  clear h
  go_enter Tryd.func27, Tryd.ntmps27
  go_wp2
  go_ret
  have h := H.out
  have hn := h.neA
  refine ⟨A, c, rfl, h.row.far (by simpa using hn) _, h.inA, ⟨none, 0, ?_, RowAt.nil _ _, by simp, by simp [rowT], fun k hk => (by have := h.lt r h.inR; simp at hk; subst hk; simpa [World.setCell] using this), h.most, by simp, h.ne⟩, (Only.refl _ w).setCell (.inl (by simp)) _⟩
  have := h.head.set_ 1 (.slice none 0 0)
  simpa using this
end Go.Proofs.YtfchkaoifbcgkaaDoor
