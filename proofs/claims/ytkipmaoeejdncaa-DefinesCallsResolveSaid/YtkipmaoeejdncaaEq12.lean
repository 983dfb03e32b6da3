/-
  Contract: the reference's Equal of nodes.
-/
import Derived.Test.YtkipmaoeejdncaaNm
namespace Go.Proofs.Ytkipmaoeejdncaa
open Go.RowKit Go.BigFrame NT
set_option linter.unusedVariables false
set_option linter.unusedSimpArgs false

/-- Equal answers yes. -/
abbrev EqC (at_ : Bool) (w : World) (A : Option Addr) (n c : Nat) (B : Option Addr) (m d : Nat) : Prop :=
  Calls Try.prog 9 #[.slice A n c, .slice B m d, .bool at_] w fun e w' => e = .returned (.bool true) ∧ Bel w w'
def EqM (at_ : Bool) (x : NT) : Prop := ∀ (u : NT) (w : World), x.In w (Lt w) → u.In w (Lt w) → key at_ x = key at_ u → EqC at_ w x.A x.b.length x.c u.A u.b.length u.c ∧ EqC at_ w x.B x.l.length x.d u.B u.l.length u.d
set_option maxRecDepth 100000 in
set_option maxHeartbeats 3200000 in
theorem equal_row (at_ : Bool) (l : List NT) (ih : ∀ x ∈ l, EqM at_ x) (m : List NT) (A B : Option Addr) (c d : Nat) (w : World) (hA : Row w (Lt w) A c l) (hB : Row w (Lt w) B d m) (hk : keys at_ l = keys at_ m) : EqC at_ w A l.length c B m.length d := by
  unfold EqC
  have hlen := keys_len hk
  rw [← hlen]
  obtain ⟨n, hn⟩ : ∃ n, n = l.length := ⟨_, rfl⟩
  have hn2 := hA.len
  rw [← hn] at hlen hn2 ⊢
  have HA := Lib.hid hA
  have HB := Lib.hid hB
  have HK := Lib.hid hk
  have HI := Lib.hid ih
  have HN := Lib.hid hn
  have HM := Lib.hid hlen
  clear hA hB hk ih hn hlen
  cases at_ with
  | true =>
    go_enter Try.func9, Try.ntmps9
    go_wp2_with fail
    go_loopw [7] (fun s7 wr => ∃ k : Nat, k ≤ n ∧ s7 = .int .i64 k ∧ Hid (Bel w wr)) (fun s7 _ => n - (intOf s7).toNat)
    case atStart => exact ⟨0, Nat.zero_le _, rfl, Lib.hid (Bel.refl _)⟩
    case round =>
      obtain ⟨k, hk, rfl, HBR⟩ := hrel
      by_cases hlt : k < n
      · have hxt := List.getElem?_eq_getElem (l := l) (i := k) (by have := HN.out; omega)
        have hut := List.getElem?_eq_getElem (l := m) (i := k) (by have := HM.out; omega)
        generalize l[k]'(by have := HN.out; omega) = x at hxt
        generalize m[k]'(by have := HM.out; omega) = u at hut
        obtain ⟨g, o, hAA, hg, ha⟩ := HA.out.cells hxt
        obtain ⟨g', o', hBB, hg', hb⟩ := HB.out.cells hut
        subst hAA hBB
        have hkey := keys_at HK.out hxt hut
        obtain ⟨e0, e1, e2, e3, e4, e5, _, _⟩ := key_eq hkey
        have e6 := e1 rfl
        have HXI := Lib.hid (HA.out.2 x (List.mem_of_getElem? hxt))
        have HUI := Lib.hid (HB.out.2 u (List.mem_of_getElem? hut))
        have HMX := Lib.hid (fun W (hb : Bel w W) => HI.out x (List.mem_of_getElem? hxt) u W (HXI.out.bel hb) (HUI.out.bel hb) hkey)
        obtain ⟨a0, a1, a2, a3, a4, a5, a6, a7⟩ := ha wr HBR.out
        have HOB := Lib.hid (fun ob => hb (wr.alloc ob) (HBR.out.trans (Bel.alloc _ ob)))
        rw [← e0, ← e2, ← e3, ← e4, ← e5, ← e6] at HOB
        clear ha hb hxt hut e0 e1 e2 e3 e4 e5 hkey hg hg' e6
        obtain ⟨b0, b1, b2, b3, b4, b5, b6, b7⟩ : (∀ ob, (wr.alloc ob).cell? ⟨g', o' + k * 8, none⟩ = some (.int .i64 x.k)) ∧ (∀ ob, (wr.alloc ob).cell? ⟨g', o' + k * 8 + 1, none⟩ = some (.int .i64 x.a)) ∧ (∀ ob, (wr.alloc ob).cell? ⟨g', o' + k * 8 + 2, none⟩ = some (.string x.s)) ∧ (∀ ob, (wr.alloc ob).cell? ⟨g', o' + k * 8 + 3, none⟩ = some (.string x.p)) ∧
            (∀ ob, (wr.alloc ob).cell? ⟨g', o' + k * 8 + 4, none⟩ = some (.bool x.h)) ∧ (∀ ob, (wr.alloc ob).cell? ⟨g', o' + k * 8 + 5, none⟩ = some (.bool x.e)) ∧ (∀ ob, (wr.alloc ob).cell? ⟨g', o' + k * 8 + 6, none⟩ = some (.slice u.A u.b.length u.c)) ∧ (∀ ob, (wr.alloc ob).cell? ⟨g', o' + k * 8 + 7, none⟩ = some (.slice u.B u.l.length u.d)) :=
          ⟨fun ob => (HOB.out ob).1, fun ob => (HOB.out ob).2.1, fun ob => (HOB.out ob).2.2.1, fun ob => (HOB.out ob).2.2.2.1, fun ob => (HOB.out ob).2.2.2.2.1, fun ob => (HOB.out ob).2.2.2.2.2.1, fun ob => (HOB.out ob).2.2.2.2.2.2.1, fun ob => (HOB.out ob).2.2.2.2.2.2.2⟩
        have HBX := Lib.hid ((Blk.new wr 25 [.int .i64 x.k, .int .i64 x.a, .string x.s, .string x.p, .bool x.h, .bool x.e, .slice x.A x.b.length x.c, .slice x.B x.l.length x.d]).alloc (.cells #[.int .i64 x.k, .int .i64 x.a, .string x.s, .string x.p, .bool x.h, .bool x.e, .slice u.A u.b.length u.c, .slice u.B u.l.length u.d] 25))
        have HBU := Lib.hid (blk_at1 wr (.cells #[.int .i64 x.k, .int .i64 x.a, .string x.s, .string x.p, .bool x.h, .bool x.e, .slice x.A x.b.length x.c, .slice x.B x.l.length x.d] 25) 25 [.int .i64 x.k, .int .i64 x.a, .string x.s, .string x.p, .bool x.h, .bool x.e, .slice u.A u.b.length u.c, .slice u.B u.l.length u.d])
        have HB0 := Lib.hid (fun ob ob2 => HBR.out.trans ((Bel.alloc wr ob).trans (Bel.alloc (wr.alloc ob) ob2)))
        clear HOB
        go_wp2_with (first | (go_at_call 9; ((with_reducible refine (HMX.out _ (HB0.out _ _)).1.mono ?_); rintro e w1 ⟨rfl, hb⟩; have HB1 := Lib.hid ((HB0.out _ _).trans hb); obtain ⟨x0, x1, x2, x3, x4, x5, x6, x7⟩ := cells8 (HBX.out.bel hb); obtain ⟨y0, y1, y2, y3, y4, y5, y6, y7⟩ := cells8 (HBU.out.bel hb); clear hb b0 b1 b2 b3 b4 b5 b6 b7)) | (go_at_call 9; ((with_reducible refine (HMX.out _ HB1.out).2.mono ?_); rintro e w2 ⟨rfl, hb⟩; have HB2 := Lib.hid (HB1.out.trans hb); clear hb)))
        go_roundw
        case rel => exact ⟨k + 1, by omega, by go_num, HB2⟩
        case measure => simp [intOf]; omega
      · obtain rfl : k = n := by omega
        go_wp2_with fail
        go_ret
        exact ⟨rfl, HBR.out⟩
  | false =>
    go_enter Try.func9, Try.ntmps9
    go_wp2_with fail
    go_loopw [7] (fun s7 wr => ∃ k : Nat, k ≤ n ∧ s7 = .int .i64 k ∧ Hid (Bel w wr)) (fun s7 _ => n - (intOf s7).toNat)
    case atStart => exact ⟨0, Nat.zero_le _, rfl, Lib.hid (Bel.refl _)⟩
    case round =>
      obtain ⟨k, hk, rfl, HBR⟩ := hrel
      by_cases hlt : k < n
      · have hxt := List.getElem?_eq_getElem (l := l) (i := k) (by have := HN.out; omega)
        have hut := List.getElem?_eq_getElem (l := m) (i := k) (by have := HM.out; omega)
        generalize l[k]'(by have := HN.out; omega) = x at hxt
        generalize m[k]'(by have := HM.out; omega) = u at hut
        obtain ⟨g, o, hAA, hg, ha⟩ := HA.out.cells hxt
        obtain ⟨g', o', hBB, hg', hb⟩ := HB.out.cells hut
        subst hAA hBB
        have hkey := keys_at HK.out hxt hut
        obtain ⟨e0, e1, e2, e3, e4, e5, _, _⟩ := key_eq hkey
        have HXI := Lib.hid (HA.out.2 x (List.mem_of_getElem? hxt))
        have HUI := Lib.hid (HB.out.2 u (List.mem_of_getElem? hut))
        have HMX := Lib.hid (fun W (hb : Bel w W) => HI.out x (List.mem_of_getElem? hxt) u W (HXI.out.bel hb) (HUI.out.bel hb) hkey)
        obtain ⟨a0, a1, a2, a3, a4, a5, a6, a7⟩ := ha wr HBR.out
        have HOB := Lib.hid (fun ob => hb (wr.alloc ob) (HBR.out.trans (Bel.alloc _ ob)))
        rw [← e0, ← e2, ← e3, ← e4, ← e5] at HOB
        clear ha hb hxt hut e0 e1 e2 e3 e4 e5 hkey hg hg' 
        obtain ⟨b0, b1, b2, b3, b4, b5, b6, b7⟩ : (∀ ob, (wr.alloc ob).cell? ⟨g', o' + k * 8, none⟩ = some (.int .i64 x.k)) ∧ (∀ ob, (wr.alloc ob).cell? ⟨g', o' + k * 8 + 1, none⟩ = some (.int .i64 u.a)) ∧ (∀ ob, (wr.alloc ob).cell? ⟨g', o' + k * 8 + 2, none⟩ = some (.string x.s)) ∧ (∀ ob, (wr.alloc ob).cell? ⟨g', o' + k * 8 + 3, none⟩ = some (.string x.p)) ∧
            (∀ ob, (wr.alloc ob).cell? ⟨g', o' + k * 8 + 4, none⟩ = some (.bool x.h)) ∧ (∀ ob, (wr.alloc ob).cell? ⟨g', o' + k * 8 + 5, none⟩ = some (.bool x.e)) ∧ (∀ ob, (wr.alloc ob).cell? ⟨g', o' + k * 8 + 6, none⟩ = some (.slice u.A u.b.length u.c)) ∧ (∀ ob, (wr.alloc ob).cell? ⟨g', o' + k * 8 + 7, none⟩ = some (.slice u.B u.l.length u.d)) :=
          ⟨fun ob => (HOB.out ob).1, fun ob => (HOB.out ob).2.1, fun ob => (HOB.out ob).2.2.1, fun ob => (HOB.out ob).2.2.2.1, fun ob => (HOB.out ob).2.2.2.2.1, fun ob => (HOB.out ob).2.2.2.2.2.1, fun ob => (HOB.out ob).2.2.2.2.2.2.1, fun ob => (HOB.out ob).2.2.2.2.2.2.2⟩
        have HBX := Lib.hid ((Blk.new wr 25 [.int .i64 x.k, .int .i64 x.a, .string x.s, .string x.p, .bool x.h, .bool x.e, .slice x.A x.b.length x.c, .slice x.B x.l.length x.d]).alloc (.cells #[.int .i64 x.k, .int .i64 u.a, .string x.s, .string x.p, .bool x.h, .bool x.e, .slice u.A u.b.length u.c, .slice u.B u.l.length u.d] 25))
        have HBU := Lib.hid (blk_at1 wr (.cells #[.int .i64 x.k, .int .i64 x.a, .string x.s, .string x.p, .bool x.h, .bool x.e, .slice x.A x.b.length x.c, .slice x.B x.l.length x.d] 25) 25 [.int .i64 x.k, .int .i64 u.a, .string x.s, .string x.p, .bool x.h, .bool x.e, .slice u.A u.b.length u.c, .slice u.B u.l.length u.d])
        have HB0 := Lib.hid (fun ob ob2 => HBR.out.trans ((Bel.alloc wr ob).trans (Bel.alloc (wr.alloc ob) ob2)))
        clear HOB
        go_wp2_with (first | (go_at_call 9; ((with_reducible refine (HMX.out _ (HB0.out _ _)).1.mono ?_); rintro e w1 ⟨rfl, hb⟩; have HB1 := Lib.hid ((HB0.out _ _).trans hb); obtain ⟨x0, x1, x2, x3, x4, x5, x6, x7⟩ := cells8 (HBX.out.bel hb); obtain ⟨y0, y1, y2, y3, y4, y5, y6, y7⟩ := cells8 (HBU.out.bel hb); clear hb b0 b1 b2 b3 b4 b5 b6 b7)) | (go_at_call 9; ((with_reducible refine (HMX.out _ HB1.out).2.mono ?_); rintro e w2 ⟨rfl, hb⟩; have HB2 := Lib.hid (HB1.out.trans hb); clear hb)))
        go_roundw
        case rel => exact ⟨k + 1, by omega, by go_num, HB2⟩
        case measure => simp [intOf]; omega
      · obtain rfl : k = n := by omega
        go_wp2_with fail
        go_ret
        exact ⟨rfl, HBR.out⟩
theorem equal_all (at_ : Bool) (x : NT) : EqM at_ x := by
  refine NT.ind (M := EqM at_) (fun t h1 h2 => ?_) x
  intro u w ht hu hk
  obtain ⟨_, _, _, _, _, _, e1, e2⟩ := key_eq hk
  exact ⟨equal_row at_ t.b h1 u.b _ _ _ _ w ht.body hu.body e1, equal_row at_ t.l h2 u.l _ _ _ _ w ht.els hu.els e2⟩
theorem equal_c (at_ : Bool) {l m : List NT} {A B : Option Addr} {c d : Nat} {w : World} (hA : Row w (Lt w) A c l) (hB : Row w (Lt w) B d m) (hk : keys at_ l = keys at_ m) :
    Calls Try.prog 9 #[.slice A l.length c, .slice B m.length d, .bool at_] w fun e w' => e = .returned (.bool true) ∧ Bel w w' :=
  equal_row at_ l (fun x _ => equal_all at_ x) m A B c d w hA hB hk
end Go.Proofs.Ytkipmaoeejdncaa
