/-
  Contract: the reference's Equal of nodes, whatever the nodes (offsets left out).
-/
import Derived.Test.YtkipmaoeejdncaaEq12
namespace Go.Proofs.Ytkipmaoeejdncaa
open Go.RowKit Go.BigFrame NT
set_option linter.unusedVariables false
set_option linter.unusedSimpArgs false

theorem toL_beq13 (a b : ByteArray) : (a.toList == b.toList) = decide (a = b) := by
  rw [ByteArray.toList_eq, ByteArray.toList_eq, Bool.eq_iff_iff, beq_iff_eq, decide_eq_true_iff]
  exact ⟨fun h => toL_inj h, fun h => by rw [h]⟩
theorem keys_snoc (l : List NT) (x : NT) : keys false (l ++ [x]) = keys false l ++ [key false x] := by simp [keys]
theorem keys_split {l m : List NT} {k : Nat} {x u : NT} (hx : l[k]? = some x) (hu : m[k]? = some u) (h : keys false l = keys false m) : key false x = key false u := keys_at h hx hu
theorem key_of {x u : NT} (h0 : x.k = u.k) (h2 : x.s = u.s) (h3 : x.p = u.p) (h4 : x.h = u.h) (h5 : x.e = u.e) (h6 : keys false x.b = keys false u.b) (h7 : keys false x.l = keys false u.l) : key false x = key false u := by
  rw [key_mk, key_mk, h0, h2, h3, h4, h5, h6, h7]; rfl
theorem keys_step {l m : List NT} {k : Nat} {x u : NT} (hx : l[k]? = some x) (hu : m[k]? = some u) (h : keys false (l.take k) = keys false (m.take k)) (hk : key false x = key false u) : keys false (l.take (k + 1)) = keys false (m.take (k + 1)) := by
  rw [take_step hx, take_step hu, keys_snoc, keys_snoc, h, hk]
/-! Are they the same, but for offsets? -/
mutual
def eqN : NT → NT → Bool | .mk k _ s p h e _ _ b _ _ l, u => decide (k = u.k) && (decide (s = u.s) && (decide (p = u.p) && ((h == u.h) && ((e == u.e) && (eqNs b u.b && eqNs l u.l)))))
def eqNs : List NT → List NT → Bool | [], m => m.isEmpty | x :: r, m => (match m with | [] => false | u :: q => eqN x u && eqNs r q)
end
theorem eqN_eq (t u : NT) : eqN t u = (decide (t.k = u.k) && (decide (t.s = u.s) && (decide (t.p = u.p) && ((t.h == u.h) && ((t.e == u.e) && (eqNs t.b u.b && eqNs t.l u.l)))))) := by cases t; rw [eqN]; rfl
theorem eqNs_of : ∀ (l m : List NT), (∀ x, x ∈ l → ∀ u, eqN x u = true ↔ key false x = key false u) → (eqNs l m = true ↔ keys false l = keys false m)
  | [], [], _ => by simp [eqNs]
  | [], u :: q, _ => by simp [eqNs, keys]
  | x :: r, [], _ => by simp [eqNs, keys]
  | x :: r, u :: q, h => by
    rw [eqNs, Bool.and_eq_true, h x (by simp) u, eqNs_of r q fun y hy => h y (by simp [hy])]
    simp [keys]
theorem eqN_iff (t : NT) : ∀ u, eqN t u = true ↔ key false t = key false u := by
  refine NT.ind (M := fun t => ∀ u, eqN t u = true ↔ key false t = key false u) (fun t h1 h2 u => ?_) t
  rw [eqN_eq]
  simp only [Bool.and_eq_true, decide_eq_true_eq, beq_iff_eq]
  rw [eqNs_of t.b u.b h1, eqNs_of t.l u.l h2]
  constructor
  · rintro ⟨q0, q2, q3, q4, q5, q6, q7⟩
    exact key_of q0 q2 q3 q4 q5 q6 q7
  · intro h
    obtain ⟨e0, _, e2, e3, e4, e5, e6, e7⟩ := key_eq h
    exact ⟨e0, e2, e3, e4, e5, e6, e7⟩
def sameN (l m : List NT) : Bool := eqNs l m
theorem sameN_iff (l m : List NT) : sameN l m = true ↔ keys false l = keys false m := eqNs_of l m fun x _ => eqN_iff x
theorem sameN_yes {l m : List NT} (h : keys false l = keys false m) : sameN l m = true := (sameN_iff l m).2 h
theorem sameN_no {l m : List NT} (h : ¬ keys false l = keys false m) : sameN l m = false := by
  cases hs : sameN l m with
  | false => rfl
  | true => exact absurd ((sameN_iff l m).1 hs) h
/-- Equal answers whether they are the same. -/
abbrev EaC (w : World) (A : Option Addr) (n c : Nat) (B : Option Addr) (m d : Nat) (r : Bool) : Prop :=
  Calls Try.prog 9 #[.slice A n c, .slice B m d, .bool false] w fun e w' => e = .returned (.bool r) ∧ Bel w w'
def EaM (x : NT) : Prop := ∀ (u : NT) (w : World), x.In w (Lt w) → u.In w (Lt w) → EaC w x.A x.b.length x.c u.A u.b.length u.c (sameN x.b u.b) ∧ EaC w x.B x.l.length x.d u.B u.l.length u.d (sameN x.l u.l)
set_option maxRecDepth 100000 in
set_option maxHeartbeats 6400000 in
theorem equalA_row (l : List NT) (ih : ∀ x ∈ l, EaM x) (m : List NT) (A B : Option Addr) (c d : Nat) (w : World) (hA : Row w (Lt w) A c l) (hB : Row w (Lt w) B d m) : EaC w A l.length c B m.length d (sameN l m) := by
  unfold EaC
  obtain ⟨n, hn⟩ : ∃ n, n = l.length := ⟨_, rfl⟩
  have hn2 := hA.len
  have hm2 := hB.len
  by_cases hlen : l.length = m.length
  · rw [← hlen]
    rw [← hn] at hlen hn2 ⊢
    have HA := Lib.hid hA
    have HB := Lib.hid hB
    have HI := Lib.hid ih
    have HN := Lib.hid hn
    have HM := Lib.hid hlen
    obtain ⟨r, hr⟩ : ∃ r, r = sameN l m := ⟨_, rfl⟩
    rw [← hr]
    have HR := Lib.hid hr
    clear hA hB ih hn hlen hm2 hr
    go_enter Try.func9, Try.ntmps9
    go_wp2_with fail
    go_loopw [7] (fun s7 wr => ∃ k : Nat, k ≤ n ∧ s7 = .int .i64 k ∧ Hid (keys false (l.take k) = keys false (m.take k)) ∧ Hid (Bel w wr)) (fun s7 _ => n - (intOf s7).toNat)
    case atStart => exact ⟨0, Nat.zero_le _, rfl, Lib.hid rfl, Lib.hid (Bel.refl _)⟩
    case round =>
      obtain ⟨k, hk, rfl, HEQ, HBR⟩ := hrel
      by_cases hlt : k < n
      · have hxt := List.getElem?_eq_getElem (l := l) (i := k) (by have := HN.out; omega)
        have hut := List.getElem?_eq_getElem (l := m) (i := k) (by have := HM.out; omega)
        generalize l[k]'(by have := HN.out; omega) = x at hxt
        generalize m[k]'(by have := HM.out; omega) = u at hut
        obtain ⟨g, o, hAA, hg, ha⟩ := HA.out.cells hxt
        obtain ⟨g', o', hBB, hg', hb⟩ := HB.out.cells hut
        subst hAA hBB
        have HXI := Lib.hid (HA.out.2 x (List.mem_of_getElem? hxt))
        have HUI := Lib.hid (HB.out.2 u (List.mem_of_getElem? hut))
        have HMX := Lib.hid (fun W (hb : Bel w W) => HI.out x (List.mem_of_getElem? hxt) u W (HXI.out.bel hb) (HUI.out.bel hb))
        have HNO : Hid (key false x ≠ key false u → r = false) := Lib.hid (fun hne => by rw [HR.out]; exact sameN_no (fun h => hne (keys_split hxt hut h)))
        have HST : Hid (key false x = key false u → keys false (l.take (k + 1)) = keys false (m.take (k + 1))) := Lib.hid (fun h => keys_step hxt hut HEQ.out h)
        obtain ⟨a0, a1, a2, a3, a4, a5, a6, a7⟩ := ha wr HBR.out
        have HOB := Lib.hid (fun ob => hb (wr.alloc ob) (HBR.out.trans (Bel.alloc _ ob)))
        clear ha hb hxt hut hg hg'
        by_cases q0 : x.k = u.k
        rotate_left
        · have HRF := Lib.hid (HNO.out (fun h => q0 (key_eq h).1))
          obtain ⟨b0, b1, b2, b3, b4, b5, b6, b7⟩ : (∀ ob, (wr.alloc ob).cell? ⟨g', o' + k * 8, none⟩ = some (.int .i64 u.k)) ∧ (∀ ob, (wr.alloc ob).cell? ⟨g', o' + k * 8 + 1, none⟩ = some (.int .i64 u.a)) ∧ (∀ ob, (wr.alloc ob).cell? ⟨g', o' + k * 8 + 2, none⟩ = some (.string u.s)) ∧ (∀ ob, (wr.alloc ob).cell? ⟨g', o' + k * 8 + 3, none⟩ = some (.string u.p)) ∧ (∀ ob, (wr.alloc ob).cell? ⟨g', o' + k * 8 + 4, none⟩ = some (.bool u.h)) ∧ (∀ ob, (wr.alloc ob).cell? ⟨g', o' + k * 8 + 5, none⟩ = some (.bool u.e)) ∧ (∀ ob, (wr.alloc ob).cell? ⟨g', o' + k * 8 + 6, none⟩ = some (.slice u.A u.b.length u.c)) ∧ (∀ ob, (wr.alloc ob).cell? ⟨g', o' + k * 8 + 7, none⟩ = some (.slice u.B u.l.length u.d)) :=
            ⟨fun ob => (HOB.out ob).1, fun ob => (HOB.out ob).2.1, fun ob => (HOB.out ob).2.2.1, fun ob => (HOB.out ob).2.2.2.1, fun ob => (HOB.out ob).2.2.2.2.1, fun ob => (HOB.out ob).2.2.2.2.2.1, fun ob => (HOB.out ob).2.2.2.2.2.2.1, fun ob => (HOB.out ob).2.2.2.2.2.2.2⟩
          have hne : (x.k != u.k) = true := bne_iff_ne.2 q0
          clear HOB q0
          go_wp2_with fail
          go_ret
          exact ⟨by rw [HRF.out]; rfl, (HBR.out.trans (Bel.alloc _ _)).trans (Bel.alloc _ _)⟩
        by_cases q2 : x.s = u.s
        rotate_left
        · have HRF := Lib.hid (HNO.out (fun h => q2 (key_eq h).2.2.1))
          rw [← q0] at HOB
          obtain ⟨b0, b1, b2, b3, b4, b5, b6, b7⟩ : (∀ ob, (wr.alloc ob).cell? ⟨g', o' + k * 8, none⟩ = some (.int .i64 x.k)) ∧ (∀ ob, (wr.alloc ob).cell? ⟨g', o' + k * 8 + 1, none⟩ = some (.int .i64 u.a)) ∧ (∀ ob, (wr.alloc ob).cell? ⟨g', o' + k * 8 + 2, none⟩ = some (.string u.s)) ∧ (∀ ob, (wr.alloc ob).cell? ⟨g', o' + k * 8 + 3, none⟩ = some (.string u.p)) ∧ (∀ ob, (wr.alloc ob).cell? ⟨g', o' + k * 8 + 4, none⟩ = some (.bool u.h)) ∧ (∀ ob, (wr.alloc ob).cell? ⟨g', o' + k * 8 + 5, none⟩ = some (.bool u.e)) ∧ (∀ ob, (wr.alloc ob).cell? ⟨g', o' + k * 8 + 6, none⟩ = some (.slice u.A u.b.length u.c)) ∧ (∀ ob, (wr.alloc ob).cell? ⟨g', o' + k * 8 + 7, none⟩ = some (.slice u.B u.l.length u.d)) :=
            ⟨fun ob => (HOB.out ob).1, fun ob => (HOB.out ob).2.1, fun ob => (HOB.out ob).2.2.1, fun ob => (HOB.out ob).2.2.2.1, fun ob => (HOB.out ob).2.2.2.2.1, fun ob => (HOB.out ob).2.2.2.2.2.1, fun ob => (HOB.out ob).2.2.2.2.2.2.1, fun ob => (HOB.out ob).2.2.2.2.2.2.2⟩
          have hne : (x.s.toList == u.s.toList) = false := by rw [toL_beq13]; simpa using q2
          have hnp : ¬ x.s.toList = u.s.toList := fun h => by rw [h] at hne; simp at hne
          clear HOB q0
          go_wp2_with fail
          go_ret
          exact ⟨by rw [HRF.out]; rfl, (HBR.out.trans (Bel.alloc _ _)).trans (Bel.alloc _ _)⟩
        by_cases q3 : x.p = u.p
        rotate_left
        · have HRF := Lib.hid (HNO.out (fun h => q3 (key_eq h).2.2.2.1))
          rw [← q0, ← q2] at HOB
          obtain ⟨b0, b1, b2, b3, b4, b5, b6, b7⟩ : (∀ ob, (wr.alloc ob).cell? ⟨g', o' + k * 8, none⟩ = some (.int .i64 x.k)) ∧ (∀ ob, (wr.alloc ob).cell? ⟨g', o' + k * 8 + 1, none⟩ = some (.int .i64 u.a)) ∧ (∀ ob, (wr.alloc ob).cell? ⟨g', o' + k * 8 + 2, none⟩ = some (.string x.s)) ∧ (∀ ob, (wr.alloc ob).cell? ⟨g', o' + k * 8 + 3, none⟩ = some (.string u.p)) ∧ (∀ ob, (wr.alloc ob).cell? ⟨g', o' + k * 8 + 4, none⟩ = some (.bool u.h)) ∧ (∀ ob, (wr.alloc ob).cell? ⟨g', o' + k * 8 + 5, none⟩ = some (.bool u.e)) ∧ (∀ ob, (wr.alloc ob).cell? ⟨g', o' + k * 8 + 6, none⟩ = some (.slice u.A u.b.length u.c)) ∧ (∀ ob, (wr.alloc ob).cell? ⟨g', o' + k * 8 + 7, none⟩ = some (.slice u.B u.l.length u.d)) :=
            ⟨fun ob => (HOB.out ob).1, fun ob => (HOB.out ob).2.1, fun ob => (HOB.out ob).2.2.1, fun ob => (HOB.out ob).2.2.2.1, fun ob => (HOB.out ob).2.2.2.2.1, fun ob => (HOB.out ob).2.2.2.2.2.1, fun ob => (HOB.out ob).2.2.2.2.2.2.1, fun ob => (HOB.out ob).2.2.2.2.2.2.2⟩
          have hne : (x.p.toList == u.p.toList) = false := by rw [toL_beq13]; simpa using q3
          have hnp : ¬ x.p.toList = u.p.toList := fun h => by rw [h] at hne; simp at hne
          clear HOB q0 q2
          go_wp2_with fail
          go_ret
          exact ⟨by rw [HRF.out]; rfl, (HBR.out.trans (Bel.alloc _ _)).trans (Bel.alloc _ _)⟩
        by_cases q4 : x.h = u.h
        rotate_left
        · have HRF := Lib.hid (HNO.out (fun h => q4 (key_eq h).2.2.2.2.1))
          rw [← q0, ← q2, ← q3] at HOB
          obtain ⟨v, hv⟩ : ∃ v, v = x.h := ⟨_, rfl⟩
          have hw : u.h = !v := by rw [hv]; cases h1 : u.h <;> cases h2 : x.h <;> simp_all
          rw [hw] at HOB
          rw [← hv] at a4
          obtain ⟨b0, b1, b2, b3, b4, b5, b6, b7⟩ : (∀ ob, (wr.alloc ob).cell? ⟨g', o' + k * 8, none⟩ = some (.int .i64 x.k)) ∧ (∀ ob, (wr.alloc ob).cell? ⟨g', o' + k * 8 + 1, none⟩ = some (.int .i64 u.a)) ∧ (∀ ob, (wr.alloc ob).cell? ⟨g', o' + k * 8 + 2, none⟩ = some (.string x.s)) ∧ (∀ ob, (wr.alloc ob).cell? ⟨g', o' + k * 8 + 3, none⟩ = some (.string x.p)) ∧ (∀ ob, (wr.alloc ob).cell? ⟨g', o' + k * 8 + 4, none⟩ = some (.bool (!v))) ∧ (∀ ob, (wr.alloc ob).cell? ⟨g', o' + k * 8 + 5, none⟩ = some (.bool u.e)) ∧ (∀ ob, (wr.alloc ob).cell? ⟨g', o' + k * 8 + 6, none⟩ = some (.slice u.A u.b.length u.c)) ∧ (∀ ob, (wr.alloc ob).cell? ⟨g', o' + k * 8 + 7, none⟩ = some (.slice u.B u.l.length u.d)) :=
            ⟨fun ob => (HOB.out ob).1, fun ob => (HOB.out ob).2.1, fun ob => (HOB.out ob).2.2.1, fun ob => (HOB.out ob).2.2.2.1, fun ob => (HOB.out ob).2.2.2.2.1, fun ob => (HOB.out ob).2.2.2.2.2.1, fun ob => (HOB.out ob).2.2.2.2.2.2.1, fun ob => (HOB.out ob).2.2.2.2.2.2.2⟩
          clear HOB q0 q2 q3 q4 hv hw
          cases v with
          | true =>
            simp only [Bool.not_true] at b4
            go_wp2_with fail
            go_ret
            exact ⟨by rw [HRF.out]; rfl, (HBR.out.trans (Bel.alloc _ _)).trans (Bel.alloc _ _)⟩
          | false =>
            simp only [Bool.not_false] at b4
            go_wp2_with fail
            go_ret
            exact ⟨by rw [HRF.out]; rfl, (HBR.out.trans (Bel.alloc _ _)).trans (Bel.alloc _ _)⟩
        by_cases q5 : x.e = u.e
        rotate_left
        · have HRF := Lib.hid (HNO.out (fun h => q5 (key_eq h).2.2.2.2.2.1))
          rw [← q0, ← q2, ← q3, ← q4] at HOB
          obtain ⟨v, hv⟩ : ∃ v, v = x.e := ⟨_, rfl⟩
          have hw : u.e = !v := by rw [hv]; cases h1 : u.e <;> cases h2 : x.e <;> simp_all
          rw [hw] at HOB
          rw [← hv] at a5
          obtain ⟨b0, b1, b2, b3, b4, b5, b6, b7⟩ : (∀ ob, (wr.alloc ob).cell? ⟨g', o' + k * 8, none⟩ = some (.int .i64 x.k)) ∧ (∀ ob, (wr.alloc ob).cell? ⟨g', o' + k * 8 + 1, none⟩ = some (.int .i64 u.a)) ∧ (∀ ob, (wr.alloc ob).cell? ⟨g', o' + k * 8 + 2, none⟩ = some (.string x.s)) ∧ (∀ ob, (wr.alloc ob).cell? ⟨g', o' + k * 8 + 3, none⟩ = some (.string x.p)) ∧ (∀ ob, (wr.alloc ob).cell? ⟨g', o' + k * 8 + 4, none⟩ = some (.bool x.h)) ∧ (∀ ob, (wr.alloc ob).cell? ⟨g', o' + k * 8 + 5, none⟩ = some (.bool (!v))) ∧ (∀ ob, (wr.alloc ob).cell? ⟨g', o' + k * 8 + 6, none⟩ = some (.slice u.A u.b.length u.c)) ∧ (∀ ob, (wr.alloc ob).cell? ⟨g', o' + k * 8 + 7, none⟩ = some (.slice u.B u.l.length u.d)) :=
            ⟨fun ob => (HOB.out ob).1, fun ob => (HOB.out ob).2.1, fun ob => (HOB.out ob).2.2.1, fun ob => (HOB.out ob).2.2.2.1, fun ob => (HOB.out ob).2.2.2.2.1, fun ob => (HOB.out ob).2.2.2.2.2.1, fun ob => (HOB.out ob).2.2.2.2.2.2.1, fun ob => (HOB.out ob).2.2.2.2.2.2.2⟩
          clear HOB q0 q2 q3 q4 q5 hv hw
          cases v with
          | true =>
            simp only [Bool.not_true] at b5
            go_wp2_with fail
            go_ret
            exact ⟨by rw [HRF.out]; rfl, (HBR.out.trans (Bel.alloc _ _)).trans (Bel.alloc _ _)⟩
          | false =>
            simp only [Bool.not_false] at b5
            go_wp2_with fail
            go_ret
            exact ⟨by rw [HRF.out]; rfl, (HBR.out.trans (Bel.alloc _ _)).trans (Bel.alloc _ _)⟩
        rw [← q0, ← q2, ← q3, ← q4, ← q5] at HOB
        obtain ⟨b0, b1, b2, b3, b4, b5, b6, b7⟩ : (∀ ob, (wr.alloc ob).cell? ⟨g', o' + k * 8, none⟩ = some (.int .i64 x.k)) ∧ (∀ ob, (wr.alloc ob).cell? ⟨g', o' + k * 8 + 1, none⟩ = some (.int .i64 u.a)) ∧ (∀ ob, (wr.alloc ob).cell? ⟨g', o' + k * 8 + 2, none⟩ = some (.string x.s)) ∧ (∀ ob, (wr.alloc ob).cell? ⟨g', o' + k * 8 + 3, none⟩ = some (.string x.p)) ∧ (∀ ob, (wr.alloc ob).cell? ⟨g', o' + k * 8 + 4, none⟩ = some (.bool x.h)) ∧ (∀ ob, (wr.alloc ob).cell? ⟨g', o' + k * 8 + 5, none⟩ = some (.bool x.e)) ∧ (∀ ob, (wr.alloc ob).cell? ⟨g', o' + k * 8 + 6, none⟩ = some (.slice u.A u.b.length u.c)) ∧ (∀ ob, (wr.alloc ob).cell? ⟨g', o' + k * 8 + 7, none⟩ = some (.slice u.B u.l.length u.d)) :=
          ⟨fun ob => (HOB.out ob).1, fun ob => (HOB.out ob).2.1, fun ob => (HOB.out ob).2.2.1, fun ob => (HOB.out ob).2.2.2.1, fun ob => (HOB.out ob).2.2.2.2.1, fun ob => (HOB.out ob).2.2.2.2.2.1, fun ob => (HOB.out ob).2.2.2.2.2.2.1, fun ob => (HOB.out ob).2.2.2.2.2.2.2⟩
        have HBX := Lib.hid ((Blk.new wr 25 [.int .i64 x.k, .int .i64 x.a, .string x.s, .string x.p, .bool x.h, .bool x.e, .slice x.A x.b.length x.c, .slice x.B x.l.length x.d]).alloc (.cells #[.int .i64 x.k, .int .i64 u.a, .string x.s, .string x.p, .bool x.h, .bool x.e, .slice u.A u.b.length u.c, .slice u.B u.l.length u.d] 25))
        have HBU := Lib.hid (blk_at1 wr (.cells #[.int .i64 x.k, .int .i64 x.a, .string x.s, .string x.p, .bool x.h, .bool x.e, .slice x.A x.b.length x.c, .slice x.B x.l.length x.d] 25) 25 [.int .i64 x.k, .int .i64 u.a, .string x.s, .string x.p, .bool x.h, .bool x.e, .slice u.A u.b.length u.c, .slice u.B u.l.length u.d])
        have HB0 := Lib.hid (fun ob ob2 => HBR.out.trans ((Bel.alloc wr ob).trans (Bel.alloc (wr.alloc ob) ob2)))
        have HNB : Hid (¬ keys false x.b = keys false u.b → r = false) := Lib.hid (fun h => HNO.out (fun h2 => h (key_eq h2).2.2.2.2.2.2.1))
        have HNL : Hid (¬ keys false x.l = keys false u.l → r = false) := Lib.hid (fun h => HNO.out (fun h2 => h (key_eq h2).2.2.2.2.2.2.2))
        have HYE : Hid (keys false x.b = keys false u.b → keys false x.l = keys false u.l → key false x = key false u) := Lib.hid (fun h6 h7 => key_of q0 q2 q3 q4 q5 h6 h7)
        clear HOB q0 q2 q3 q4 q5
        by_cases q6 : keys false x.b = keys false u.b
        · have HD1 : Hid (sameN x.b u.b = true) := Lib.hid (sameN_yes q6)
          by_cases q7 : keys false x.l = keys false u.l
          · have HD2 : Hid (sameN x.l u.l = true) := Lib.hid (sameN_yes q7)
            have HSM := Lib.hid (HST.out (HYE.out q6 q7))
            clear q6 q7
            go_wp2_with (first | (go_at_call 9; ((with_reducible refine (HMX.out _ (HB0.out _ _)).1.mono ?_); rintro e w1 ⟨rfl, hb⟩; rw [HD1.out]; have HB1 := Lib.hid ((HB0.out _ _).trans hb); obtain ⟨x0, x1, x2, x3, x4, x5, x6, x7⟩ := cells8 (HBX.out.bel hb); obtain ⟨y0, y1, y2, y3, y4, y5, y6, y7⟩ := cells8 (HBU.out.bel hb); clear hb b0 b1 b2 b3 b4 b5 b6 b7)) | (go_at_call 9; ((with_reducible refine (HMX.out _ HB1.out).2.mono ?_); rintro e w2 ⟨rfl, hb⟩; rw [HD2.out]; have HB2 := Lib.hid (HB1.out.trans hb); clear hb)))
            go_roundw
            case rel => exact ⟨k + 1, by omega, by go_num, HSM, HB2⟩
            case measure => simp [intOf]; omega
          · have HD2 : Hid (sameN x.l u.l = false) := Lib.hid (sameN_no q7)
            have HRF := Lib.hid (HNL.out q7)
            clear q6 q7
            go_wp2_with (first | (go_at_call 9; ((with_reducible refine (HMX.out _ (HB0.out _ _)).1.mono ?_); rintro e w1 ⟨rfl, hb⟩; rw [HD1.out]; have HB1 := Lib.hid ((HB0.out _ _).trans hb); obtain ⟨x0, x1, x2, x3, x4, x5, x6, x7⟩ := cells8 (HBX.out.bel hb); obtain ⟨y0, y1, y2, y3, y4, y5, y6, y7⟩ := cells8 (HBU.out.bel hb); clear hb b0 b1 b2 b3 b4 b5 b6 b7)) | (go_at_call 9; ((with_reducible refine (HMX.out _ HB1.out).2.mono ?_); rintro e w2 ⟨rfl, hb⟩; rw [HD2.out]; have HB2 := Lib.hid (HB1.out.trans hb); clear hb)))
            go_ret
            exact ⟨by rw [HRF.out]; rfl, HB2.out⟩
        · have HD1 : Hid (sameN x.b u.b = false) := Lib.hid (sameN_no q6)
          have HRF := Lib.hid (HNB.out q6)
          clear q6
          go_wp2_with (first | (go_at_call 9; ((with_reducible refine (HMX.out _ (HB0.out _ _)).1.mono ?_); rintro e w1 ⟨rfl, hb⟩; rw [HD1.out]; have HB1 := Lib.hid ((HB0.out _ _).trans hb); obtain ⟨x0, x1, x2, x3, x4, x5, x6, x7⟩ := cells8 (HBX.out.bel hb); obtain ⟨y0, y1, y2, y3, y4, y5, y6, y7⟩ := cells8 (HBU.out.bel hb); clear hb b0 b1 b2 b3 b4 b5 b6 b7)) | (go_at_call 9; ((with_reducible refine (HMX.out _ HB1.out).2.mono ?_); rintro e w2 ⟨rfl, hb⟩; rw [HD2.out]; have HB2 := Lib.hid (HB1.out.trans hb); clear hb)))
          go_ret
          exact ⟨by rw [HRF.out]; rfl, HB1.out⟩
      · obtain rfl : k = n := by omega
        have HRT : Hid (r = true) := Lib.hid (by
          rw [HR.out]
          refine sameN_yes ?_
          have h := HEQ.out
          rwa [HN.out, List.take_length, ← HN.out, HM.out, List.take_length] at h)
        go_wp2_with fail
        go_ret
        exact ⟨by rw [HRT.out]; rfl, HBR.out⟩
  · have hd : sameN l m = false := sameN_no (fun h => hlen (keys_len h))
    rw [hd]
    have hne : ((l.length : Int) != (m.length : Int)) = true := bne_iff_ne.2 (by omega)
    generalize l.length = a at *
    generalize m.length = b at *
    clear hd ih hA hB hn
    go_enter Try.func9, Try.ntmps9
    go_wp2_with fail
    go_ret
    exact ⟨rfl, Bel.refl _⟩
theorem equalA_all (x : NT) : EaM x := by
  refine NT.ind (M := EaM) (fun t h1 h2 => ?_) x
  intro u w ht hu
  exact ⟨equalA_row t.b h1 u.b _ _ _ _ w ht.body hu.body, equalA_row t.l h2 u.l _ _ _ _ w ht.els hu.els⟩
theorem equalA_c {l m : List NT} {A B : Option Addr} {c d : Nat} {w : World} (hA : Row w (Lt w) A c l) (hB : Row w (Lt w) B d m) :
    Calls Try.prog 9 #[.slice A l.length c, .slice B m.length d, .bool false] w fun e w' => e = .returned (.bool (sameN l m)) ∧ Bel w w' :=
  equalA_row l (fun x _ => equalA_all x) m A B c d w hA hB
end Go.Proofs.Ytkipmaoeejdncaa
