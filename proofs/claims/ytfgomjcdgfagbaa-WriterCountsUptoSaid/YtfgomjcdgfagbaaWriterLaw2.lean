/-
  The laws WriterEmpty and WriterAcceptsPrefix, walked.
-/
import Derived.Test.YtfgomjcdgfagbaaWriterLaw
import Derived.Test.YtfgomjcdgfagbaaFrame
namespace Go.Proofs.Ytfgomjcdgfagbaa
open Go.RowKit Go.BigFrame
set_option linter.unusedVariables false
set_option linter.unusedSimpArgs false
attribute [local go_sem ↓] sliced_cut run_min2 run_max2
attribute [local go_sem] cutA_zero

/-- The writer from the start w0 on: its blocks are new, nothing old has turned. -/
def Since (w0 w : World) (r : Nat) (s : WSt) : Prop := ∃ T, WriterOf w T r s ∧ (∀ k, k ∈ T → w0.heap.size ≤ k) ∧ Below w0.heap.size w0 w
theorem Since.below {w0 w : World} {r : Nat} {s : WSt} (h : Since w0 w r s) : Below w0.heap.size w0 w := by obtain ⟨T, _, _, hb⟩ := h; exact hb
theorem Since.only {w0 w w' : World} {r : Nat} {s : WSt} (h : Since w0 w r s) (hO : Only [] w w') : Since w0 w' r s := by
  obtain ⟨T, h1, h2, h3⟩ := h
  exact ⟨T, h1.only hO (by simp), h2, h3.trans ((only_nil_below hO).mono h3.size)⟩
theorem new_since {w0 w : World} {X : Option Addr} {m c : Nat} {ns : List Int} {B : Nat} (hr : Reads w B X m (vis ns)) (hB : B ≤ w.heap.size) (hm : m ≤ 17592186044416) (bl : Below w0.heap.size w0 w) :
    Calls Try.prog 16 #[.slice X m c] w fun e w' => ∃ r, e = .returned (.pointer (some ⟨r, 0, none⟩)) ∧ Since w0 w' r ⟨[], ns, 0, false⟩ ∧ Only [] w w' := by
  refine (new_c hr hB hm).mono ?_
  rintro e w' ⟨T, r, rfl, hW, hT, hO⟩
  exact ⟨r, rfl, ⟨T, hW, fun k hk => Nat.le_trans bl.size (hT k hk), bl.trans ((only_nil_below hO).mono bl.size)⟩, hO⟩
theorem write_since {w0 w : World} {r : Nat} {s : WSt} (h : Since w0 w r s) {X : Option Addr} {m cap : Nat} {b : List UInt8} (hb : Reads w w0.heap.size X m (vbs b)) (n e : Nat) (s' : WSt) (hs : wstep s b = (n, e, s')) (hq : s.calls < 70368744177664)
    (hmc : m ≤ cap) (hcm : cap ≤ maxLen) (hsum : s.acc.length + m ≤ 70368744177664) :
    Calls Try.prog 10 #[.pointer (some ⟨r, 0, none⟩), .slice X m cap] w fun e' w' => e' = .returned (.tuple #[.int .i64 n, .int .i64 e]) ∧ Since w0 w' r s' := by
  obtain ⟨T, hW, hT, bl⟩ := h
  refine (write_to hW hb n e s' hs hq bl.size hmc hcm ?_ hsum).mono ?_
  · intro h0 ad e' hk
    obtain ⟨ad', e1, hl, _⟩ := hb.2 h0
    rw [e'] at e1
    injection e1 with e1
    subst e1
    have := hT _ hk
    omega
  · rintro e' w' ⟨rfl, hB⟩
    exact ⟨rfl, hB.next bl hT⟩
theorem calls_since {w0 w : World} {r : Nat} {s : WSt} (h : Since w0 w r s) (q : Nat) (hq : q = s.calls) :
    Calls Try.prog 12 #[.pointer (some ⟨r, 0, none⟩)] w fun e w' => e = .returned (.int .i64 q) ∧ w = w' := by
  obtain ⟨T, hW, _⟩ := h
  subst hq
  exact calls_c hW
theorem left_since {w0 w : World} {r : Nat} {s : WSt} (h : Since w0 w r s) (q : Nat) (hq : q = s.left.length) :
    Calls Try.prog 13 #[.pointer (some ⟨r, 0, none⟩)] w fun e w' => e = .returned (.int .i64 q) ∧ w = w' := by
  obtain ⟨T, hW, _⟩ := h
  subst hq
  exact left_c hW
theorem bytes_since {w0 w : World} {r : Nat} {s : WSt} (h : Since w0 w r s) (n : Nat) (hn : n = s.acc.length) :
    Calls Try.prog 11 #[.pointer (some ⟨r, 0, none⟩)] w fun e w' => ∃ G d, e = .returned (.slice G n d) ∧ Reads w' w'.heap.size G n (vbs s.acc) ∧ Only [] w w' := by
  obtain ⟨T, hW, _⟩ := h
  exact bytes_c hW n hn
theorem alive_since {w0 w : World} {r : Nat} {s : WSt} (h : Since w0 w r s) :
    Calls Try.prog 15 #[] w fun e w' => e = .returned (.bool true) ∧ Only [] w w' ∧ Since w0 w' r s := by
  refine (alive_any w).mono ?_
  rintro e w' ⟨rfl, hO⟩
  exact ⟨rfl, hO, h.only hO⟩

theorem wstep_neg {acc : List UInt8} {x : Int} {l : List Int} {q : Nat} (b : List UInt8) (h : x < 0) : wstep ⟨acc, x :: l, q, false⟩ b = (0, 9, ⟨acc, l, q + 1, true⟩) := by simp [wstep, h]
theorem wstep_pos {acc : List UInt8} {x : Int} {l : List Int} {q : Nat} (b : List UInt8) (h : 0 ≤ x) : wstep ⟨acc, x :: l, q, false⟩ b = (min x.toNat b.length, 0, ⟨acc ++ b.take (min x.toNat b.length), l, q + 1, false⟩) := by
  simp [wstep, show ¬ x < 0 by omega]
theorem wstep_none {acc : List UInt8} {q : Nat} (b : List UInt8) : wstep ⟨acc, [], q, false⟩ b = (0, 10, ⟨acc, [], q, false⟩) := rfl
theorem wstep_failed {acc : List UInt8} {l : List Int} {q : Nat} (b : List UInt8) : wstep ⟨acc, l, q, true⟩ b = (0, 9, ⟨acc, l, q, true⟩) := rfl

/-! ### WriterEmpty -/
set_option maxRecDepth 100000 in
set_option maxHeartbeats 1000000 in
theorem empty_walk (S : Option Addr) (n c : Nat) (l : List Int) (w : World) (hs : l.length = n ∧ n ≤ c ∧ c ≤ maxLen ∧ Reads w w.heap.size S n (l.map (Value.int .i64)) ∧ ∀ z ∈ l, (Lit.int .i64 z).wf = true) :
    Calls Try.prog 8 #[.slice S n c] w fun e w' => e = .returned (.bool true) ∧ Below w.heap.size w w' := by
  obtain ⟨hl, hnc, hcm, hrd, hwf⟩ := hs
  have HL := Lib.hid hl
  clear hl
  by_cases hn : (1000 : Int) < (n : Int)
  · go_enter Try.func8, Try.ntmps8
    go_wp2_with (go_at_call 15; refine (alive_any _).mono ?_; rintro e w2 ⟨rfl, hO2⟩)
    go_ret
    exact ⟨rfl, only_nil_below hO2⟩
  · have hn' : (n : Int) ≤ 1000 := by omega
    have HNW := Lib.hid (new_since (c := c) hrd (Nat.le_refl _) (by omega) (Below.refl _ w))
    have HRD := Lib.hid hrd
    have HWF := Lib.hid hwf
    clear hrd hwf
    go_enter Try.func8, Try.ntmps8
    go_wp2_with fail
    refine HNW.out.mono ?_
    rintro e w1 ⟨r, rfl, hW1, hO1⟩
    have hinv : Since w w1 r ⟨[], l.drop 0, 0, false⟩ := by simpa using hW1
    clear hW1 hO1
    go_wp2_with fail
    go_loopw [20] (fun i wr => ∃ k : Nat, k ≤ n ∧ i = .int .i64 k ∧ Since w wr r ⟨[], l.drop k, k, false⟩) (fun i _ => n - (intOf i).toNat)
    case atStart => exact ⟨0, Nat.zero_le _, rfl, hinv⟩
    case round =>
      clear hinv
      obtain ⟨k, hk, rfl, hI⟩ := hrel
      by_cases hlt : k < n
      · obtain ⟨g, o, rfl, hg, hcell⟩ := (HRD.out.below hI.below).plain (by omega)
        have hkl : k < l.length := by rw [HL.out]; exact hlt
        obtain ⟨x, hx⟩ : ∃ x, x = l[k] := ⟨_, rfl⟩
        have hc := hcell k (.int .i64 x) (by rw [List.getElem?_map, List.getElem?_eq_getElem hkl, hx]; rfl)
        have hd : l.drop k = x :: l.drop (k + 1) := by rw [List.drop_eq_getElem_cons hkl, hx]
        rw [hd] at hI
        have hx63 := wf_i64 (HWF.out x (by rw [hx]; exact List.getElem_mem hkl))
        clear hcell hx hd
        by_cases hneg : x < 0
        · go_wp2_with fail
          refine (write_since hI (X := none) (m := 0) (cap := 0) (b := []) Reads.none_ 0 9 _ (wstep_neg _ hneg) (by simp; omega) (by simp) (by simp) (by simp)).mono ?_
          rintro e w2 ⟨rfl, hW2⟩
          go_wp2_with (first
            | (go_at_call 12; refine (calls_since hW2 (k + 1) rfl).mono ?_; rintro e w' ⟨rfl, rfl⟩)
            | (go_at_call 15; refine (alive_since hW2).mono ?_; rintro e w3 ⟨rfl, hO3, hW3⟩)
            | (go_at_call 11; refine (bytes_since hW3 0 rfl).mono ?_; rintro e w4 ⟨G, d, rfl, hG, hO4⟩))
          go_ret
          exact ⟨rfl, (hW3.only hO4).below⟩
        · have hpos : 0 ≤ x := by omega
          go_wp2_with fail
          refine (write_since hI (X := none) (m := 0) (cap := 0) (b := []) Reads.none_ 0 0 ⟨[], l.drop (k + 1), k + 1, false⟩ (by rw [wstep_pos _ hpos]; simp) (by simp; omega) (by simp) (by simp) (by simp)).mono ?_
          rintro e w2 ⟨rfl, hW2⟩
          go_wp2_with (first
            | (go_at_call 12; refine (calls_since hW2 (k + 1) rfl).mono ?_; rintro e w' ⟨rfl, rfl⟩))
          go_roundw
          case rel => exact ⟨k + 1, by omega, by go_num, hW2⟩
          case measure => simp [intOf]; omega
      · have hd : l.drop k = [] := List.drop_of_length_le (by rw [HL.out]; omega)
        rw [hd] at hI
        go_wp2_with fail
        refine (write_since hI (X := none) (m := 0) (cap := 0) (b := []) Reads.none_ 0 10 _ (wstep_none _) (by simp; omega) (by simp) (by simp) (by simp)).mono ?_
        rintro e w2 ⟨rfl, hW2⟩
        go_wp2_with (first
          | (go_at_call 15; refine (alive_since hW2).mono ?_; rintro e w3 ⟨rfl, hO3, hW3⟩)
          | (go_at_call 11; refine (bytes_since hW3 0 rfl).mono ?_; rintro e w4 ⟨G, d, rfl, hG, hO4⟩))
        go_ret
        exact ⟨rfl, (hW3.only hO4).below⟩

/-! ### WriterAcceptsPrefix -/
/-- What lies below the start reads the same in all worlds that come behind it. -/
theorem Reads.swap {w0 w w' : World} {n : Nat} {A : Option Addr} {xs : List Value} (h : Reads w w0.heap.size A n xs) (h1 : Below w0.heap.size w0 w) (h2 : Below w0.heap.size w0 w') : Reads w' w0.heap.size A n xs :=
  h.keep fun _ _ hp => (h2.block _ hp).trans (h1.block _ hp).symm
/-- 'string(b)' at a world, as a fact that may be carried along. -/
def StrAt (w : World) (A : Option Addr) (n c : Nat) (l : List UInt8) : Prop := (convert 29 9 (.slice A n c)).run Try.prog w = .ok (.string ⟨l.toArray⟩) w
theorem strAt_of {w : World} {B n : Nat} {A : Option Addr} {l : List UInt8} (h : Reads w B A n (vbs l)) (c : Nat) : StrAt w A n c l :=
  run_string_of Try.underlying29 Try.underlying5 Try.underlying9 h c

/-- What holds at the head of the law's loop. -/
structure PrefixInv (w : World) (r m : Nat) (b : List UInt8) (l : List Int) (wr : World) (k j q : Nat) (R : Option Addr) (cr : Nat) : Prop where
  sum : j + q = m
  rest : Reads wr w.heap.size R q (vbs (b.drop j))
  le : q ≤ cr
  max : cr ≤ maxLen
  wr : Since w wr r ⟨b.take j, l.drop k, k, false⟩

set_option maxRecDepth 100000 in
set_option maxHeartbeats 2000000 in
theorem prefix_walk (S : Option Addr) (n c : Nat) (l : List Int) (A : Option Addr) (m d : Nat) (b : List UInt8) (w : World) (hs : l.length = n ∧ n ≤ c ∧ c ≤ maxLen ∧ Reads w w.heap.size S n (l.map (Value.int .i64)) ∧ ∀ z ∈ l, (Lit.int .i64 z).wf = true)
    (hb : b.length = m ∧ m ≤ d ∧ d ≤ maxLen ∧ Reads w w.heap.size A m (vbs b)) :
    Calls Try.prog 5 #[.slice S n c, .slice A m d] w fun e w' => e = .returned (.bool true) ∧ Below w.heap.size w w' := by
  obtain ⟨hl, hnc, hcm, hrd, hwf⟩ := hs
  obtain ⟨hbl, hmd, hdm, hrb⟩ := hb
  have HL := Lib.hid hl
  have HB := Lib.hid hbl
  have hO0 : Only [] w (w.alloc (.cells #[.slice A m d] 29)) := (Only.refl _ _).alloc _
  have hps : PiecesAt (w.alloc (.cells #[.slice A m d] 29)) (w.heap.size + 1) (some ⟨w.heap.size, 0, none⟩) 1 [⟨A, m, d, b⟩] := by
    refine ⟨rfl, fun _ => ⟨_, _, rfl, by omega, fun i p hp => ?_⟩, fun p hp => ?_⟩
    · cases i with
      | zero =>
        simp at hp
        subst hp
        simp
      | succ i => simp at hp
    · simp at hp
      subst hp
      exact ⟨hbl, hmd, hdm, (hrb.only' hO0 (Nat.le_refl _) (by simp)).more (by omega)⟩
  have HTL := Lib.hid (tooLarge_any (S := S) (n := n) (c := c) (d := 1) hps (by unfold maxLen at hdm; simp [total]; omega) hnc hcm (by omega) (by decide))
  have HRD := Lib.hid hrd
  have HRB := Lib.hid hrb
  have HWF := Lib.hid hwf
  have hdm' := hdm
  have hcm' := hcm
  unfold maxLen at hdm' hcm'
  clear hl hbl hrd hrb hwf hps
  go_enter Try.func5, Try.ntmps5
  go_wp2_with fail
  refine HTL.out.mono ?_
  rintro e w1 ⟨v, rfl, rfl, hsm⟩
  cases v
  case true =>
    clear hsm
    go_wp2_with (go_at_call 15; refine (alive_any _).mono ?_; rintro e w2 ⟨rfl, hO2⟩)
    go_ret
    exact ⟨rfl, only_nil_below (hO0.trans hO2)⟩
  case false =>
    obtain ⟨hn300, _, hm2⟩ := hsm rfl
    have hm20 : m ≤ 20000 := by simpa [total] using hm2
    clear hsm hm2
    have HNW := Lib.hid (new_since (c := c) (HRD.out.only' hO0 (Nat.le_refl _) (by simp)) hO0.size (by omega) (only_nil_below hO0))
    clear hO0
    generalize (w.alloc (.cells #[.slice A m d] 29)) = w1 at HNW ⊢
    go_wp2_with fail
    refine HNW.out.mono ?_
    rintro e w2 ⟨r, rfl, hW2, _⟩
    have hinv : PrefixInv w r m b l w2 0 0 m A d := ⟨by omega, by simpa using HRB.out.below hW2.below, hmd, hdm, by simpa using hW2⟩
    clear hW2
    go_wp2_with fail
    go_loopw [6, 22] (fun rest i wr => ∃ (k j q : Nat) (R : Option Addr) (cr : Nat), k ≤ n ∧ i = .int .i64 k ∧ rest = .slice R q cr ∧ PrefixInv w r m b l wr k j q R cr) (fun _ i _ => n + 1 - (intOf i).toNat)
    case atStart => exact ⟨0, 0, m, A, d, Nat.zero_le _, rfl, rfl, hinv⟩
    case round =>
      clear hinv
      obtain ⟨k, j, q, R, cr, hk, rfl, rfl, hI⟩ := hrel
      have hjq := hI.sum
      have hqc := hI.le
      have hcrm := hI.max
      unfold maxLen at hcrm
      have hq2 : q ≤ m := by omega
      have htl : (b.take j).length = j := by rw [List.length_take, HB.out]; omega
      by_cases hgo : k < n ∧ 0 ≤ l.getD k (-1)
      · obtain ⟨hlt, hpos⟩ := hgo
        have hkl : k < l.length := by rw [HL.out]; exact hlt
        obtain ⟨x, hx⟩ : ∃ x, x = l[k] := ⟨_, rfl⟩
        have hd : l.drop k = x :: l.drop (k + 1) := by rw [List.drop_eq_getElem_cons hkl, hx]
        rw [List.getD_eq_getElem?_getD, List.getElem?_eq_getElem hkl, Option.getD_some, ← hx] at hpos
        obtain ⟨t, ht⟩ : ∃ t, t = min x.toNat q := ⟨_, rfl⟩
        have htq : t ≤ q := by omega
        have hdl : (b.drop j).length = q := by rw [List.length_drop, HB.out]; omega
        have hstep : wstep ⟨b.take j, x :: l.drop (k + 1), k, false⟩ (b.drop j) = (t, 0, ⟨b.take (j + t), l.drop (k + 1), k + 1, false⟩) := by
          rw [wstep_pos _ hpos, hdl, ← ht, List.take_add]
        have hWI := hI.wr
        rw [hd] at hWI
        have HW := Lib.hid (write_since hWI (b := b.drop j) hI.rest t 0 _ hstep (by simp; omega) hqc hI.max (by simp [htl]; omega))
        have hcut : ∀ w', Below w.heap.size w w' → Reads w' w.heap.size (cutA cr t 1 R) (q - t) (vbs (b.drop (j + t))) := fun w' hb => by
          have h1 := (hI.rest.swap hI.wr.below hb).cut_ (k := t) (m := q) (c := cr) htq (Nat.le_refl _) hqc
          rwa [← vbs_drop, ← vbs_take, List.drop_drop, List.take_of_length_le (by rw [List.length_drop, HB.out]; omega)] at h1
        have HC := Lib.hid hcut
        have htq2 : (t : Int) ≤ (q : Int) := by omega
        have htc : (t : Int) ≤ (cr : Int) := by omega
        have HT := Lib.hid ht
        have HTL := Lib.hid htl
        have HDL := Lib.hid hdl
        have HJ := Lib.hid hjq
        clear hcut hI hx hd ht htl hdl hstep hWI hpos hjq
        go_wp2_with fail
        refine HW.out.mono ?_
        rintro e w3 ⟨rfl, hW3⟩
        go_wp2_with fail
        go_roundw
        case rel => exact ⟨k + 1, j + t, q - t, cutA cr t 1 R, cr - t, by omega, by go_num, rfl, by have := HJ.out; omega, HC.out _ hW3.below, by omega, by unfold maxLen; omega, hW3⟩
        case measure => simp [intOf]; omega
      · have hout : ∃ e l', (e = 9 ∨ e = 10) ∧ ∃ q' f, q' ≤ n ∧ wstep ⟨b.take j, l.drop k, k, false⟩ (b.drop j) = (0, e, ⟨b.take j, l', q', f⟩) := by
          by_cases hlt : k < n
          · have hkl : k < l.length := by rw [HL.out]; exact hlt
            have hneg : l[k] < 0 := by
              rw [List.getD_eq_getElem?_getD, List.getElem?_eq_getElem hkl, Option.getD_some] at hgo
              omega
            refine ⟨9, l.drop (k + 1), .inl rfl, k + 1, true, by omega, ?_⟩
            rw [List.drop_eq_getElem_cons hkl, wstep_neg _ hneg]
          · refine ⟨10, [], .inr rfl, k, false, hk, ?_⟩
            rw [List.drop_of_length_le (by rw [HL.out]; omega)]
            rfl
        obtain ⟨e, l', he, k', f, hk', hstep⟩ := hout
        have hdl : (b.drop j).length = q := by rw [List.length_drop, HB.out]; omega
        have HW := Lib.hid (write_since hI.wr (b := b.drop j) hI.rest 0 e _ hstep (by simp; omega) hqc hI.max (by simp [htl]; omega))
        have hjm : j ≤ m := by omega
        have hmq : IntKind.i64.wrap ((m : Int) - (q : Int)) = (j : Int) := by rw [IntWalk.i64_in _ (by omega)]; omega
        have hmq' : (m : Int) - (q : Int) = (j : Int) := by omega
        have hjd : (j : Int) ≤ (d : Int) := by omega
        have hk2 : (k' : Int) ≤ (n : Int) := by omega
        have HTL := Lib.hid htl
        have HSB : Hid (∀ w', Below w.heap.size w w' → Reads w' w.heap.size A j (vbs (b.take j))) := fun w' hb => by
          have h1 := (HRB.out.below hb).cut_ (k := 0) (m := j) (c := d) (by omega) (by omega) hmd
          rwa [cutA_zero, List.drop_zero, Nat.sub_zero, ← vbs_take] at h1
        clear hI hgo hstep htl hdl hjq
        rcases he with rfl | rfl
        all_goals
          go_wp2_with fail
          refine HW.out.mono ?_
          rintro e w3 ⟨rfl, hW3⟩
          go_wp2_with fail
          refine region_begin (T := []) (by kernel_rfl) ?_
          have hWD := hW3.only ((Only.refl [] w3).drew)
          clear hW3
          generalize w3.drew = W3 at hWD ⊢
          refine region_call 0 (by kernel_rfl) rfl (by rfl) (by go_simp; exact ⟨rfl, rfl⟩) ?_
          refine (alive_since hWD).mono ?_; rintro e w4 ⟨rfl, hO4, hW4⟩; refine ⟨_, rfl, hO4, ?_⟩
          simp only [List.getElem_toArray, List.getElem_cons_zero, List.getElem_cons_succ, Act.put, List.setIfInBounds_toArray, List.set_cons_zero, List.set_cons_succ]
          have s1 := fun x : Later [] w4 => strAt_of (HSB.out x.w (hW4.only x.h).below) d
          unfold StrAt at s1
          refine region_seg [false, true, true, false, false, true, true, true, true, true, true, true, true] 12 (by kernel_rfl) (by kernel_rfl) (by kernel_rfl) rfl (fun _ _ d _ _ h => by cases d <;> exact h) ?_
          repeat (first | with_reducible refine wpMask_pass ?_ | (refine wpMask_want (by rfl) (fun K hK => ?_); go_big_quiet_op; refine hK _ ?_; clear hK K))
          with_reducible refine wpMask_nil ?_
          refine region_call 3 (by kernel_rfl) rfl (by rfl) (by go_simp; exact ⟨rfl, rfl⟩) ?_
          refine (bytes_since hW4 j HTL.out.symm).mono ?_; rintro e w5 ⟨G, gd, rfl, hG, hO5⟩; refine ⟨_, rfl, hO5, ?_⟩
          simp only [List.getElem_toArray, List.getElem_cons_zero, List.getElem_cons_succ, Act.put, List.setIfInBounds_toArray, List.set_cons_zero, List.set_cons_succ]
          have s2 := fun x : Later [] w5 => strAt_of (hG.only' x.h (Nat.le_refl _) (by simp)) gd
          unfold StrAt at s2
          have hW5 := hW4.only hO5
          refine region_seg [false, false, false, false, true, false, false, false, false, false, false, false, false, true, true, true, true, false, true, true] 4 (by kernel_rfl) (by kernel_rfl) (by kernel_rfl) rfl (fun _ _ d _ _ h => by cases d <;> exact h) ?_
          repeat (first | with_reducible refine wpMask_pass ?_ | (refine wpMask_want (by rfl) (fun K hK => ?_); go_big_quiet_op; refine hK _ ?_; clear hK K))
          with_reducible refine wpMask_nil ?_
          refine region_call 17 (by kernel_rfl) rfl (by rfl) (by go_simp; exact ⟨rfl, rfl⟩) ?_
          refine (calls_since hW5 k' rfl).mono ?_; rintro e _ ⟨rfl, rfl⟩; refine ⟨_, rfl, Only.refl _ _, ?_⟩
          simp only [List.getElem_toArray, List.getElem_cons_zero, List.getElem_cons_succ, Act.put, List.setIfInBounds_toArray, List.set_cons_zero, List.set_cons_succ]
          refine region_seg [false, false, false, false, false, false, false, false, false, false, false, false, false, false, false, false, false, false, false, false, true, true, true] 0 (by kernel_rfl) (by kernel_rfl) (by kernel_rfl) rfl (fun _ _ d _ _ h => by cases d <;> exact h) ?_
          repeat (first | with_reducible refine wpMask_pass ?_ | (refine wpMask_want (by rfl) (fun K hK => ?_); go_big_quiet_op; refine hK _ ?_; clear hK K))
          with_reducible refine wpMask_nil ?_
          refine region_end (by kernel_rfl) ?_
          go_wp2
          go_ret
          exact ⟨rfl, hW5.below⟩

end Go.Proofs.Ytfgomjcdgfagbaa
