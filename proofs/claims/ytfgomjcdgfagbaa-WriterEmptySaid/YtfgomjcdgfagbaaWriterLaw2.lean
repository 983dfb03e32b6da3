/-
  The laws WriterEmpty and WriterAcceptsPrefix, walked.
-/
import Derived.Test.YtfgomjcdgfagbaaWriterLaw
import Derived.Test.YtfgomjcdgfagbaaFrame
namespace Go.Proofs.Ytfgomjcdgfagbaa
open Go.RowKit Go.BigFrame
set_option linter.unusedVariables false
set_option linter.unusedSimpArgs false
attribute [local go_sem ↓] sliced_cut run_min2 run_max2
attribute [local go_sem] cutA_zero

/-- The writer from the start w0 on: its blocks are new, nothing old has turned. -/
def Since (w0 w : World) (r : Nat) (s : WSt) : Prop := ∃ T, WriterOf w T r s ∧ (∀ k, k ∈ T → w0.heap.size ≤ k) ∧ Below w0.heap.size w0 w
theorem Since.below {w0 w : World} {r : Nat} {s : WSt} (h : Since w0 w r s) : Below w0.heap.size w0 w := by obtain ⟨T, _, _, hb⟩ := h; exact hb
theorem Since.only {w0 w w' : World} {r : Nat} {s : WSt} (h : Since w0 w r s) (hO : Only [] w w') : Since w0 w' r s := by
  obtain ⟨T, h1, h2, h3⟩ := h
  exact ⟨T, h1.only hO (by simp), h2, h3.trans ((only_nil_below hO).mono h3.size)⟩
theorem new_since {w0 w : World} {X : Option Addr} {m c : Nat} {ns : List Int} {B : Nat} (hr : Reads w B X m (vis ns)) (hB : B ≤ w.heap.size) (hm : m ≤ 17592186044416) (bl : Below w0.heap.size w0 w) :
    Calls Try.prog 16 #[.slice X m c] w fun e w' => ∃ r, e = .returned (.pointer (some ⟨r, 0, none⟩)) ∧ Since w0 w' r ⟨[], ns, 0, false⟩ ∧ Only [] w w' := by
  refine (new_c hr hB hm).mono ?_
  rintro e w' ⟨T, r, rfl, hW, hT, hO⟩
  exact ⟨r, rfl, ⟨T, hW, fun k hk => Nat.le_trans bl.size (hT k hk), bl.trans ((only_nil_below hO).mono bl.size)⟩, hO⟩
theorem write_since {w0 w : World} {r : Nat} {s : WSt} (h : Since w0 w r s) {X : Option Addr} {m cap : Nat} {b : List UInt8} (hb : Reads w w0.heap.size X m (vbs b)) (n e : Nat) (s' : WSt) (hs : wstep s b = (n, e, s')) (hq : s.calls < 70368744177664)
    (hmc : m ≤ cap) (hcm : cap ≤ maxLen) (hsum : s.acc.length + m ≤ 70368744177664) :
    Calls Try.prog 10 #[.pointer (some ⟨r, 0, none⟩), .slice X m cap] w fun e' w' => e' = .returned (.tuple #[.int .i64 n, .int .i64 e]) ∧ Since w0 w' r s' := by
  obtain ⟨T, hW, hT, bl⟩ := h
  refine (write_to hW hb n e s' hs hq bl.size hmc hcm ?_ hsum).mono ?_
  · intro h0 ad e' hk
    obtain ⟨ad', e1, hl, _⟩ := hb.2 h0
    rw [e'] at e1
    injection e1 with e1
    subst e1
    have := hT _ hk
    omega
  · rintro e' w' ⟨rfl, hB⟩
    exact ⟨rfl, hB.next bl hT⟩
theorem calls_since {w0 w : World} {r : Nat} {s : WSt} (h : Since w0 w r s) (q : Nat) (hq : q = s.calls) :
    Calls Try.prog 12 #[.pointer (some ⟨r, 0, none⟩)] w fun e w' => e = .returned (.int .i64 q) ∧ w = w' := by
  obtain ⟨T, hW, _⟩ := h
  subst hq
  exact calls_c hW
theorem left_since {w0 w : World} {r : Nat} {s : WSt} (h : Since w0 w r s) (q : Nat) (hq : q = s.left.length) :
    Calls Try.prog 13 #[.pointer (some ⟨r, 0, none⟩)] w fun e w' => e = .returned (.int .i64 q) ∧ w = w' := by
  obtain ⟨T, hW, _⟩ := h
  subst hq
  exact left_c hW
theorem bytes_since {w0 w : World} {r : Nat} {s : WSt} (h : Since w0 w r s) (n : Nat) (hn : n = s.acc.length) :
    Calls Try.prog 11 #[.pointer (some ⟨r, 0, none⟩)] w fun e w' => ∃ G d, e = .returned (.slice G n d) ∧ Reads w' w'.heap.size G n (vbs s.acc) ∧ Only [] w w' := by
  obtain ⟨T, hW, _⟩ := h
  exact bytes_c hW n hn
theorem alive_since {w0 w : World} {r : Nat} {s : WSt} (h : Since w0 w r s) :
    Calls Try.prog 15 #[] w fun e w' => e = .returned (.bool true) ∧ Only [] w w' ∧ Since w0 w' r s := by
  refine (alive_any w).mono ?_
  rintro e w' ⟨rfl, hO⟩
  exact ⟨rfl, hO, h.only hO⟩

theorem wstep_neg {acc : List UInt8} {x : Int} {l : List Int} {q : Nat} (b : List UInt8) (h : x < 0) : wstep ⟨acc, x :: l, q, false⟩ b = (0, 9, ⟨acc, l, q + 1, true⟩) := by simp [wstep, h]
theorem wstep_pos {acc : List UInt8} {x : Int} {l : List Int} {q : Nat} (b : List UInt8) (h : 0 ≤ x) : wstep ⟨acc, x :: l, q, false⟩ b = (min x.toNat b.length, 0, ⟨acc ++ b.take (min x.toNat b.length), l, q + 1, false⟩) := by
  simp [wstep, show ¬ x < 0 by omega]
theorem wstep_none {acc : List UInt8} {q : Nat} (b : List UInt8) : wstep ⟨acc, [], q, false⟩ b = (0, 10, ⟨acc, [], q, false⟩) := rfl
theorem wstep_failed {acc : List UInt8} {l : List Int} {q : Nat} (b : List UInt8) : wstep ⟨acc, l, q, true⟩ b = (0, 9, ⟨acc, l, q, true⟩) := rfl

/-! ### WriterEmpty -/
set_option maxRecDepth 100000 in
set_option maxHeartbeats 1000000 in
theorem empty_walk (S : Option Addr) (n c : Nat) (l : List Int) (w : World) (hs : l.length = n ∧ n ≤ c ∧ c ≤ maxLen ∧ Reads w w.heap.size S n (l.map (Value.int .i64)) ∧ ∀ z ∈ l, (Lit.int .i64 z).wf = true) :
    Calls Try.prog 8 #[.slice S n c] w fun e w' => e = .returned (.bool true) ∧ Below w.heap.size w w' := by
  obtain ⟨hl, hnc, hcm, hrd, hwf⟩ := hs
  have HL := Lib.hid hl
  clear hl
  by_cases hn : (1000 : Int) < (n : Int)
  · go_enter Try.func8, Try.ntmps8
    go_wp2_with (go_at_call 15; refine (alive_any _).mono ?_; rintro e w2 ⟨rfl, hO2⟩)
    go_ret
    exact ⟨rfl, only_nil_below hO2⟩
  · have hn' : (n : Int) ≤ 1000 := by omega
    have HNW := Lib.hid (new_since (c := c) hrd (Nat.le_refl _) (by omega) (Below.refl _ w))
    have HRD := Lib.hid hrd
    have HWF := Lib.hid hwf
    clear hrd hwf
    go_enter Try.func8, Try.ntmps8
    go_wp2_with fail
    refine HNW.out.mono ?_
    rintro e w1 ⟨r, rfl, hW1, hO1⟩
    have hinv : Since w w1 r ⟨[], l.drop 0, 0, false⟩ := by simpa using hW1
    clear hW1 hO1
    go_wp2_with fail
    go_loopw [20] (fun i wr => ∃ k : Nat, k ≤ n ∧ i = .int .i64 k ∧ Since w wr r ⟨[], l.drop k, k, false⟩) (fun i _ => n - (intOf i).toNat)
    case atStart => exact ⟨0, Nat.zero_le _, rfl, hinv⟩
    case round =>
      clear hinv
      obtain ⟨k, hk, rfl, hI⟩ := hrel
      by_cases hlt : k < n
      · obtain ⟨g, o, rfl, hg, hcell⟩ := (HRD.out.below hI.below).plain (by omega)
        have hkl : k < l.length := by rw [HL.out]; exact hlt
        obtain ⟨x, hx⟩ : ∃ x, x = l[k] := ⟨_, rfl⟩
        have hc := hcell k (.int .i64 x) (by rw [List.getElem?_map, List.getElem?_eq_getElem hkl, hx]; rfl)
        have hd : l.drop k = x :: l.drop (k + 1) := by rw [List.drop_eq_getElem_cons hkl, hx]
        rw [hd] at hI
        have hx63 := wf_i64 (HWF.out x (by rw [hx]; exact List.getElem_mem hkl))
        clear hcell hx hd
        by_cases hneg : x < 0
        · go_wp2_with fail
          refine (write_since hI (X := none) (m := 0) (cap := 0) (b := []) Reads.none_ 0 9 _ (wstep_neg _ hneg) (by simp; omega) (by simp) (by simp) (by simp)).mono ?_
          rintro e w2 ⟨rfl, hW2⟩
          go_wp2_with (first
            | (go_at_call 12; refine (calls_since hW2 (k + 1) rfl).mono ?_; rintro e w' ⟨rfl, rfl⟩)
            | (go_at_call 15; refine (alive_since hW2).mono ?_; rintro e w3 ⟨rfl, hO3, hW3⟩)
            | (go_at_call 11; refine (bytes_since hW3 0 rfl).mono ?_; rintro e w4 ⟨G, d, rfl, hG, hO4⟩))
          go_ret
          exact ⟨rfl, (hW3.only hO4).below⟩
        · have hpos : 0 ≤ x := by omega
          go_wp2_with fail
          refine (write_since hI (X := none) (m := 0) (cap := 0) (b := []) Reads.none_ 0 0 ⟨[], l.drop (k + 1), k + 1, false⟩ (by rw [wstep_pos _ hpos]; simp) (by simp; omega) (by simp) (by simp) (by simp)).mono ?_
          rintro e w2 ⟨rfl, hW2⟩
          go_wp2_with (first
            | (go_at_call 12; refine (calls_since hW2 (k + 1) rfl).mono ?_; rintro e w' ⟨rfl, rfl⟩))
          go_roundw
          case rel => exact ⟨k + 1, by omega, by go_num, hW2⟩
          case measure => simp [intOf]; omega
      · have hd : l.drop k = [] := List.drop_of_length_le (by rw [HL.out]; omega)
        rw [hd] at hI
        go_wp2_with fail
        refine (write_since hI (X := none) (m := 0) (cap := 0) (b := []) Reads.none_ 0 10 _ (wstep_none _) (by simp; omega) (by simp) (by simp) (by simp)).mono ?_
        rintro e w2 ⟨rfl, hW2⟩
        go_wp2_with (first
          | (go_at_call 15; refine (alive_since hW2).mono ?_; rintro e w3 ⟨rfl, hO3, hW3⟩)
          | (go_at_call 11; refine (bytes_since hW3 0 rfl).mono ?_; rintro e w4 ⟨G, d, rfl, hG, hO4⟩))
        go_ret
        exact ⟨rfl, (hW3.only hO4).below⟩

end Go.Proofs.Ytfgomjcdgfagbaa
