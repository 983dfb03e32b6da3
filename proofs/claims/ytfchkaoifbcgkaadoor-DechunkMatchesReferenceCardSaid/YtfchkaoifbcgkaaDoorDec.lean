/-
  A decoder as it lies in a world; contracts of the functions of package dechunk that parse nothing.
-/
import Derived.Test.YtfchkaoifbcgkaaDoorClone
import Derived.Test.YtfchkaoifbcgkaaDoorDech
import Derived.Test.YtfchkaoifbcgkaaDoorThingRows
import Derived.Test.YtfchkaoifbcgkaaDoorTurn
namespace Go.Proofs.YtfchkaoifbcgkaaDoor
open Go.RowKit Go.BigFrame
set_option linter.unusedVariables false
set_option linter.unusedSimpArgs false
attribute [local go_sem ↓] sliced_cut run_min2 run_max2
attribute [local go_sem] cutA_zero

/-- Numbers as ints. -/
def nats (l : List Nat) : List Int := l.map (fun n : Nat => (n : Int))
theorem nats_length (l : List Nat) : (nats l).length = l.length := by simp [nats]
theorem nats_append (a b : List Nat) : nats (a ++ b) = nats a ++ nats b := by simp [nats]
theorem info_int : (Tryd.prog.info? 3).map (fun i => (i.zero, i.size, i.bytes)) = some (some (.int .i64 0), 1, 8) := by kernel_rfl

/-- A decoder at block r, its blocks among T: its state, the number of its bytes, its error; its rows. -/
structure DecAt (w : World) (T : List Nat) (r : Nat) (s : DSt) (o e : Nat) (A : Option Addr) (a : Nat) (S : Option Addr) (z : Nat) (Y : Option Addr) (y : Nat) : Prop where
  head : Blk w r 54 [.int .i64 s.place, .slice A s.line.length a, .int .i64 s.miss, .slice S s.sizes.length z, .slice Y s.pay.length y, .int .i64 o, .int .i64 e]
  line : RowAt w 5 A s.line.length a (vbs s.line)
  sizes : RowAt w 3 S s.sizes.length z (vis (nats s.sizes))
  pay : RowAt w 5 Y s.pay.length y (vbs s.pay)
  apart : ∀ k, k ∈ rowT A → k ∉ rowT Y
  inR : r ∈ T
  inA : ∀ k, k ∈ rowT A → k ∈ T
  inS : ∀ k, k ∈ rowT S → k ∈ T
  inY : ∀ k, k ∈ rowT Y → k ∈ T
  lt : ∀ k, k ∈ T → k < w.heap.size
/-- As a thing. -/
def Dc (r : Nat) (s : DSt) (o e : Nat) : World → List Nat → Prop := fun w T => ∃ A a S z Y y, DecAt w T r s o e A a S z Y y
section
variable {w w' : World} {T : List Nat} {r : Nat} {s s' : DSt} {o e o' e' : Nat} {A A' : Option Addr} {a a' : Nat} {S S' : Option Addr} {z z' : Nat} {Y Y' : Option Addr} {y y' : Nat}
theorem DecAt.only {U : List Nat} (h : DecAt w T r s o e A a S z Y y) (ho : Only U w w') (hS : ∀ k, k ∈ T → k ∉ U) : DecAt w' T r s o e A a S z Y y :=
  ⟨h.head.only ho (hS _ h.inR), h.line.only ho (fun k hk => hS _ (h.inA k hk)), h.sizes.only ho (fun k hk => hS _ (h.inS k hk)), h.pay.only ho (fun k hk => hS _ (h.inY k hk)), h.apart, h.inR, h.inA, h.inS, h.inY, fun k hk => Nat.lt_of_lt_of_le (h.lt k hk) ho.size⟩
theorem dc_thing (r : Nat) (s : DSt) (o e : Nat) : IsThing (Dc r s o e) :=
  ⟨fun ⟨A, a, S, z, Y, y, h⟩ ho hS => ⟨A, a, S, z, Y, y, h.only ho hS⟩, fun ⟨A, a, S, z, Y, y, h⟩ => h.lt⟩
theorem DecAt.neA (h : DecAt w T r s o e A a S z Y y) : r ∉ rowT A := h.line.ne_blk h.head (by decide)
theorem DecAt.neS (h : DecAt w T r s o e A a S z Y y) : r ∉ rowT S := h.sizes.ne_blk h.head (by decide)
theorem DecAt.neY (h : DecAt w T r s o e A a S z Y y) : r ∉ rowT Y := h.pay.ne_blk h.head (by decide)
theorem DecAt.neAS (h : DecAt w T r s o e A a S z Y y) : ∀ k, k ∈ rowT A → k ∉ rowT S := h.line.ne h.sizes (by decide)
theorem DecAt.neSY (h : DecAt w T r s o e A a S z Y y) : ∀ k, k ∈ rowT S → k ∉ rowT Y := h.sizes.ne h.pay (by decide)
/-- What comes out, put together. -/
theorem dec_turn (h : DecAt w T r s o e A a S z Y y) (hO : Only T w w')
    (hb : Blk w' r 54 [.int .i64 s'.place, .slice A' s'.line.length a', .int .i64 s'.miss, .slice S' s'.sizes.length z', .slice Y' s'.pay.length y', .int .i64 o', .int .i64 e'])
    (h1 : RowAt w' 5 A' s'.line.length a' (vbs s'.line)) (h2 : RowAt w' 3 S' s'.sizes.length z' (vis (nats s'.sizes))) (h3 : RowAt w' 5 Y' s'.pay.length y' (vbs s'.pay))
    (hap : ∀ k, k ∈ rowT A' → k ∉ rowT Y') (k1 : ∀ k, k ∈ rowT A' → k ∈ T ∨ w.heap.size ≤ k) (k2 : ∀ k, k ∈ rowT S' → k ∈ T ∨ w.heap.size ≤ k) (k3 : ∀ k, k ∈ rowT Y' → k ∈ T ∨ w.heap.size ≤ k) :
    Turned (Dc r s' o' e') w T w' := by
  refine ⟨T ++ (rowT A' ++ (rowT S' ++ rowT Y')), ⟨A', a', S', z', Y', y', hb, h1, h2, h3, hap, by simp [h.inR], fun k hk => by simp [hk], fun k hk => by simp [hk], fun k hk => by simp [hk], fun k hk => ?_⟩, fun k hk => ?_, hO⟩
  · simp only [List.mem_append] at hk
    rcases hk with hk | hk | hk | hk
    · exact Nat.lt_of_lt_of_le (h.lt k hk) hO.size
    · exact h1.lt k hk
    · exact h2.lt k hk
    · exact h3.lt k hk
  · simp only [List.mem_append] at hk
    rcases hk with hk | hk | hk | hk
    · exact .inl hk
    · exact k1 k hk
    · exact k2 k hk
    · exact k3 k hk
/-- Only the numbers of the head written. -/
theorem dec_head (h : DecAt w T r s o e A a S z Y y) (hO : Only [r] w w') (hs : s'.line = s.line ∧ s'.sizes = s.sizes ∧ s'.pay = s.pay)
    (hb : Blk w' r 54 [.int .i64 s'.place, .slice A s.line.length a, .int .i64 s'.miss, .slice S s.sizes.length z, .slice Y s.pay.length y, .int .i64 o', .int .i64 e']) :
    Turned (Dc r s' o' e') w T w' := by
  obtain ⟨p, l, m, zz, yy⟩ := s'
  obtain ⟨rfl, rfl, rfl⟩ := hs
  have hin : ∀ U : List Nat, r ∉ U → ∀ k, k ∈ U → k ∉ [r] := fun U hU k hk hk' => by
    obtain rfl : k = r := by simpa using hk'
    exact hU hk
  exact dec_turn h (hO.more (fun k hk => by obtain rfl : k = r := by simpa using hk
                                            exact h.inR)) hb (h.line.only hO (hin _ h.neA)) (h.sizes.only hO (hin _ h.neS)) (h.pay.only hO (hin _ h.neY)) h.apart (fun k hk => .inl (h.inA k hk)) (fun k hk => .inl (h.inS k hk)) (fun k hk => .inl (h.inY k hk))
theorem Dc.head (h : Dc r s o e w T) : ∃ A a S z Y y, Blk w r 54 [.int .i64 s.place, .slice A s.line.length a, .int .i64 s.miss, .slice S s.sizes.length z, .slice Y s.pay.length y, .int .i64 o, .int .i64 e] := by
  obtain ⟨A, a, S, z, Y, y, h⟩ := h
  exact ⟨A, a, S, z, Y, y, h.head⟩
end

/-! ### New -/
set_option maxHeartbeats 400000 in
theorem newd_c (w : World) :
    Calls Tryd.prog 15 #[] w fun e w' => e = .returned (.pointer (some ⟨w.heap.size, 0, none⟩)) ∧ Dc w.heap.size DSt.init 0 0 w' [w.heap.size] ∧ Only [] w w' := by
  have hF : Hid (Dc w.heap.size DSt.init 0 0 (w.alloc (.cells #[.int .i64 0, .slice none 0 0, .int .i64 0, .slice none 0 0, .slice none 0 0, .int .i64 0, .int .i64 0] 54)) [w.heap.size]) := Lib.hid
    ⟨none, 0, none, 0, none, 0, Blk.new w 54 [.int .i64 0, .slice none 0 0, .int .i64 0, .slice none 0 0, .slice none 0 0, .int .i64 0, .int .i64 0], RowAt.nil _ _, RowAt.nil _ _, RowAt.nil _ _, by simp [rowT], by simp, by simp [rowT], by simp [rowT], by simp [rowT], by simp⟩
  go_enter Tryd.func15, Tryd.ntmps15
  go_wp2
  go_ret
  exact ⟨rfl, hF.out, (Only.refl [] w).alloc _⟩

/-! ### acceptOnly -/
set_option maxHeartbeats 400000 in
theorem only_other (w : World) (p q : Value) {c d : UInt8} (h : c ≠ d) :
    Calls Tryd.prog 38 #[p, .int .u8 (c.toNat : Int), .int .u8 (d.toNat : Int), q] w fun e w' => e = .returned (.bool false) ∧ w = w' := by
  have hne : ((d.toNat : Int) != (c.toNat : Int)) = true := by
    rw [bne_iff_ne]
    intro e
    exact h (UInt8.toNat.inj (by omega))
  clear h
  go_enter Tryd.func38, Tryd.ntmps38
  go_wp2
  go_ret
  exact ⟨rfl, rfl⟩
set_option maxHeartbeats 400000 in
theorem only_same {w : World} {T : List Nat} {r : Nat} {s : DSt} {o e : Nat} (h : Dc r s o e w T) (c : UInt8) (q : Nat) :
    Calls Tryd.prog 38 #[.pointer (some ⟨r, 0, none⟩), .int .u8 (c.toNat : Int), .int .u8 (c.toNat : Int), .int .i64 q] w fun e' w' => e' = .returned (.bool true) ∧ Turned (Dc r ⟨q, s.line, s.miss, s.sizes, s.pay⟩ o e) w T w' := by
  obtain ⟨A, a, S, z, Y, y, h⟩ := h
  have c0 := h.head.cell 0
  have f0 := h.head.free 0
  have hne : ((c.toNat : Int) != (c.toNat : Int)) = false := by simp
  have H := Lib.hid h
  clear h
  go_enter Tryd.func38, Tryd.ntmps38
  go_wp2
  go_ret
  refine ⟨rfl, dec_head H.out ((Only.refl _ w).setCell (.inl (by simp)) _) ⟨rfl, rfl, rfl⟩ ?_⟩
  have := H.out.head.set_ 0 (.int .i64 q)
  simpa using this

/-! ### afterChunk -/
set_option maxHeartbeats 800000 in
theorem after_c {w : World} {T : List Nat} {r : Nat} {s : DSt} {o e : Nat} (h : Dc r s o e w T) (hs : s.sizes ≠ []) (ho : s.sizes.length ≤ 1000000) (q : Nat) (hq : q = if s.sizes.getLast? = some 0 then 5 else 0) :
    Calls Tryd.prog 39 #[.pointer (some ⟨r, 0, none⟩)] w fun e' w' => e' = .returned (.int .i64 q) ∧ Only [] w w' := by
  obtain ⟨A, a, S, z, Y, y, h⟩ := h
  obtain ⟨k, hk⟩ : ∃ k, s.sizes.length = k + 1 := ⟨s.sizes.length - 1, by have := List.length_pos_iff.2 hs; omega⟩
  have hl : s.sizes.getLast? = some (s.sizes[k]'(by omega)) := by
    rw [List.getLast?_eq_getElem?, show s.sizes.length - 1 = k by omega, List.getElem?_eq_getElem]
  obtain ⟨v, hv⟩ : ∃ v, v = s.sizes[k]'(by omega) := ⟨_, rfl⟩
  have hcell : (vis (nats s.sizes))[k]? = some (.int .i64 (v : Int)) := by
    rw [vis_getElem?, nats, List.getElem?_map, List.getElem?_eq_getElem (by omega), hv]; rfl
  obtain ⟨g, g0, rfl, hc⟩ := h.sizes.cell hcell
  have c3 := h.head.cell 3
  rw [hl, ← hv] at hq
  have hle := h.sizes.le
  have hm := h.sizes.max
  unfold maxLen at hm
  simp only [List.getElem?_cons_succ, List.getElem?_cons_zero] at c3
  rw [hk] at c3 hle ho
  have hw : IntKind.i64.wrap (((k + 1 : Nat) : Int) - 1) = (k : Int) := by rw [wrap_small _ (by omega) (by omega)]; omega
  have hto : ((k : Int)).toNat = k := by omega
  have hlt : (k : Int) < ((k + 1 : Nat) : Int) := by omega
  have hge : (0 : Int) ≤ (k : Int) := by omega
  have HQ := Lib.hid hq
  clear h hcell hl hv hs hk hq
  by_cases h0 : v = 0
  · subst h0
    have hq : q = 5 := by rw [HQ.out, if_pos rfl]
    subst hq
    clear HQ
    go_enter Tryd.func39, Tryd.ntmps39
    go_wp2
    go_quiet (fail)
    go_wp2
    go_ret
    exact ⟨rfl, (Only.refl [] w).drewN _⟩
  · have hq : q = 0 := by rw [HQ.out, if_neg (by simpa using h0)]
    have hv0 : ((v : Int) == 0) = false := by rw [beq_eq_false_iff_ne]; omega
    subst hq
    clear HQ
    go_enter Tryd.func39, Tryd.ntmps39
    go_wp2
    go_quiet (fail)
    go_wp2
    go_ret
    exact ⟨rfl, (Only.refl [] w).drewN _⟩
end Go.Proofs.YtfchkaoifbcgkaaDoor
