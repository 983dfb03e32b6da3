/-
  The law WriterCounts, walked, where what comes in is of bulk at most 1048576.
-/
import Derived.Test.YtfgomjcdgfagbaaWriterLaw3
import Derived.Test.YtfgomjcdgfagbaaUpto
namespace Go.Proofs.Ytfgomjcdgfagbaa
open Go.ChangeShapes Go.WideShapes Go.RowKit Go.BigFrame
set_option linter.unusedVariables false
set_option linter.unusedSimpArgs false
attribute [local go_sem ↓] sliced_cut run_min2 run_max2
attribute [local go_sem] cutA_zero

/-- The pieces that came in, of so many bytes at the most. -/
def PiecesUpto (w : World) (a : Option Addr) (len cap : Nat) (ps : List PieceV) : Prop := PiecesAt w w.heap.size a len ps ∧ len ≤ cap ∧ cap ≤ maxLen ∧ total ps ≤ 1048576
theorem upto_T23 {H : Type} {enc : TypeId × Value → H} {w : World} {a : Option Addr} {len cap : Nat} {d : DataW H} {p : List MemPlace} (h : DataW.Trod enc Try.prog w 0 (fun _ => true) true 23 (.slice a len cap) d p)
    (hk : Rows.uptoBulk d ≤ 1048576) : ∃ ps, PiecesUpto w a len cap ps := by
  obtain ⟨h1, h2, ps, h3, h4⟩ := pieces_of_trod Try.underlying23 Try.underlying29 (by kernel_rfl) Try.underlying5 (by kernel_rfl) h
  exact ⟨ps, h3, h1, h2, Nat.le_trans h4.bulk hk⟩

/-- What holds behind i pieces. -/
structure Counted (l : List Int) (n : Nat) (ps : List PieceV) (i : Nat) (s : WSt) : Prop where
  rest : s.left = l.drop s.calls
  used : s.calls ≤ n
  acc : s.acc.length ≤ total (ps.take i)
/-- One write: either it goes through, or it adds nothing. -/
theorem Counted.step {l : List Int} {n i : Nat} {ps : List PieceV} {s : WSt} (h : Counted l n ps i s) (hl : l.length = n) {p : PieceV} (hp : ps[i]? = some p) {b : List UInt8} (hb : b.length = p.m) :
    (∃ (x : Int) (t : Nat), l[s.calls]? = some x ∧ (t : Int) ≤ x ∧ t ≤ p.m ∧ s.calls < n ∧ wstep s b = (t, 0, ⟨s.acc ++ b.take t, l.drop (s.calls + 1), s.calls + 1, false⟩) ∧ Counted l n ps (i + 1) ⟨s.acc ++ b.take t, l.drop (s.calls + 1), s.calls + 1, false⟩) ∨
    ∃ (e : Nat) (s1 : WSt), (e = 9 ∨ e = 10) ∧ s1.acc = s.acc ∧ wstep s b = (0, e, s1) ∧ Counted l n ps (i + 1) s1 := by
  have htk := total_take hp
  have h1 := h.rest
  have h2 := h.used
  have h3 := h.acc
  obtain ⟨acc, left, q, f⟩ := s
  simp only at h1 h2 h3
  subst h1
  cases f with
  | true => exact .inr ⟨9, _, .inl rfl, rfl, wstep_failed b, ⟨rfl, h2, by simp only; omega⟩⟩
  | false =>
    by_cases hlt : q < n
    · have hql : q < l.length := by omega
      have hd : l.drop q = l[q] :: l.drop (q + 1) := List.drop_eq_getElem_cons hql
      by_cases hx : l[q] < 0
      · refine .inr ⟨9, ⟨acc, l.drop (q + 1), q + 1, true⟩, .inl rfl, rfl, ?_, ⟨rfl, by simp only; omega, by simp only; omega⟩⟩
        show wstep ⟨acc, l.drop q, q, false⟩ b = _
        rw [hd, wstep_neg b hx]
      · refine .inl ⟨l[q], min (l[q]).toNat b.length, List.getElem?_eq_getElem hql, by omega, by omega, hlt, ?_, ⟨rfl, by simp only; omega, ?_⟩⟩
        · show wstep ⟨acc, l.drop q, q, false⟩ b = _
          rw [hd, wstep_pos b (by omega)]
        · simp only [List.length_append, List.length_take]
          omega
    · have hd : l.drop q = [] := List.drop_of_length_le (by omega)
      refine .inr ⟨10, ⟨acc, l.drop q, q, false⟩, .inr rfl, rfl, ?_, ⟨rfl, h2, by simp only; omega⟩⟩
      rw [hd]
      rfl
theorem Counted.sum {l : List Int} {n i : Nat} {ps : List PieceV} {s : WSt} (h : Counted l n ps i s) (hl : l.length = n) : s.calls + s.left.length = n := by
  have h1 := h.used
  rw [h.rest, List.length_drop]
  omega

set_option maxRecDepth 100000 in
set_option maxHeartbeats 2000000 in
theorem counts_walk (S : Option Addr) (n c : Nat) (l : List Int) (X : Option Addr) (k d : Nat) (ps : List PieceV) (w : World)
    (hs : l.length = n ∧ n ≤ c ∧ c ≤ maxLen ∧ Reads w w.heap.size S n (l.map (Value.int .i64)) ∧ ∀ z ∈ l, (Lit.int .i64 z).wf = true) (hn : n ≤ 1048576)
    (hp : PiecesUpto w X k d ps) :
    Calls Try.prog 7 #[.slice S n c, .slice X k d] w fun e w' => e = .returned (.bool true) ∧ Below w.heap.size w w' := by
  obtain ⟨hl, hnc, hcm, hrd, hwf⟩ := hs
  obtain ⟨hP, hkd, hdm, htot⟩ := hp
  have HL := Lib.hid hl
  have HRD : Hid (Reads w w.heap.size S n (vis l)) := hrd
  have HP := Lib.hid hP
  have HNW := Lib.hid (new_since (c := c) HRD.out (Nat.le_refl _) (by omega) (Below.refl _ w))
  have HWF := Lib.hid hwf
  have hdm' := hdm
  have hcm' := hcm
  unfold maxLen at hdm' hcm'
  clear hl hrd hwf hP
  go_enter Try.func7, Try.ntmps7
  go_wp2_with fail
  refine HNW.out.mono ?_
  rintro e w1 ⟨r, rfl, hW1, _⟩
  clear HNW
  go_wp2_with fail
  go_loopw [6, 18] (fun m i wr => ∃ (j : Nat) (s : WSt) (al : Nat), j ≤ k ∧ i = .int .i64 j ∧ m = .int .i64 al ∧ al = s.acc.length ∧ Since w wr r s ∧ Counted l n ps j s) (fun _ i _ => k - (intOf i).toNat)
  case atStart => exact ⟨0, _, 0, Nat.zero_le _, rfl, rfl, rfl, hW1, ⟨by simp, by simp, by simp⟩⟩
  case round =>
    clear hW1
    obtain ⟨i, s, al, hik, rfl, rfl, hal, hI, hct⟩ := hrel
    have htk := total_take_all ps i
    have hacc := hct.acc
    have halb : (al : Int) ≤ 1048576 := by omega
    have HAL := Lib.hid hal
    by_cases hlt : i < k
    · obtain ⟨p, g, o, hp, rfl, hg, hcell, hat⟩ := (HP.out.below hI.below).piece hlt
      have hpm := total_mem (List.mem_of_getElem? hp)
      obtain ⟨pA, pm, pc, pb⟩ := p
      obtain ⟨a1, a2, a3, a4⟩ := hat
      simp only at hcell a1 a2 a3 a4 hpm
      have hst := hct.step HL.out hp a1
      have hus := hct.used
      obtain ⟨q, hq⟩ : ∃ q, q = s.calls := ⟨_, rfl⟩
      have HQ := Lib.hid hq
      rcases hst with ⟨x, t, hx, htx, htm, hqn, hstep, hct1⟩ | ⟨e1, s1, he, hac, hstep, hct1⟩
      · simp only at htm
        rw [← hq] at hx hqn hstep hct1
        have HW := Lib.hid (write_since hI a4 t 0 _ hstep (by omega) a2 a3 (by omega))
        have hs1 := hct1.sum HL.out
        simp only at hs1
        obtain ⟨ll, hll⟩ : ∃ ll, ll = (l.drop (q + 1)).length := ⟨_, rfl⟩
        rw [← hll] at hs1
        have hsi : (q : Int) + 1 + (ll : Int) = (n : Int) := by omega
        have hxw := wf_i64 (HWF.out x (List.mem_of_getElem? hx))
        have htm' : (t : Int) ≤ (pm : Int) := by omega
        have hqn' : (q : Int) < (n : Int) := by omega
        have hqb : q < 1048576 := by omega
        have hllb : ll ≤ 1048576 := by omega
        have htb : (t : Int) ≤ 1048576 := by omega
        obtain ⟨gs, os, hS, hgs, hsc⟩ := HRD.out.plain (by omega)
        have HSC : Hid (∀ w', Below w.heap.size w w' → w'.cell? ⟨gs, os + q, none⟩ = some (.int .i64 x)) := fun w' hb =>
          (hb.cell (p := ⟨gs, os + q, none⟩) hgs).trans (hsc q _ (by rw [vis_getElem?, hx]; rfl))
        have HC := Lib.hid hct1
        have HLL := Lib.hid hll
        have HA2 : Hid (al + t = (s.acc ++ pb.take t).length) := by show al + t = _; rw [List.length_append, List.length_take]; omega
        subst hS
        unfold maxLen at a3
        clear hx hstep hct1 hs1 hll hsc a1 a4 hp hct hpm htk hacc hal hus hqn htm hxw hq
        go_wp2_with (go_at_call 12; refine (calls_since hI q HQ.out).mono ?_; rintro e w' ⟨rfl, rfl⟩)
        refine HW.out.mono ?_
        rintro e w2 ⟨rfl, hW2⟩
        have hcx := HSC.out _ hW2.below
        clear HW HSC
        go_wp2_with (first
          | (go_at_call 12; refine (calls_since hW2 (q + 1) rfl).mono ?_; rintro e w' ⟨rfl, rfl⟩)
          | (go_at_call 13; refine (left_since hW2 ll HLL.out).mono ?_; rintro e w' ⟨rfl, rfl⟩))
        go_roundw
        case rel => exact ⟨i + 1, _, al + t, by omega, by go_num, by go_num, HA2.out, hW2, HC.out⟩
        case measure => simp [intOf]; omega
      · have HW := Lib.hid (write_since hI a4 0 e1 _ hstep (by omega) a2 a3 (by omega))
        have hs1 := hct1.sum HL.out
        obtain ⟨q1, hq1⟩ : ∃ q1, q1 = s1.calls := ⟨_, rfl⟩
        obtain ⟨ll, hll⟩ : ∃ ll, ll = s1.left.length := ⟨_, rfl⟩
        rw [← hll, ← hq1] at hs1
        have hsi : (q1 : Int) + (ll : Int) = (n : Int) := by omega
        have hqb : q1 ≤ 1048576 := by omega
        have hllb : ll ≤ 1048576 := by omega
        have HC := Lib.hid hct1
        have HLL := Lib.hid hll
        have HQ1 := Lib.hid hq1
        have HA2 : Hid (al = s1.acc.length) := by show al = _; rw [hac]; exact hal
        unfold maxLen at a3
        clear hstep hct1 hs1 hll hq1 a1 a4 hp hct hpm htk hacc hal hus hq hac
        rcases he with rfl | rfl
        all_goals
          go_wp2_with (go_at_call 12; refine (calls_since hI q HQ.out).mono ?_; rintro e w' ⟨rfl, rfl⟩)
          refine HW.out.mono ?_
          rintro e w2 ⟨rfl, hW2⟩
          clear HW
          go_wp2_with (first
            | (go_at_call 12; refine (calls_since hW2 q1 HQ1.out).mono ?_; rintro e w' ⟨rfl, rfl⟩)
            | (go_at_call 13; refine (left_since hW2 ll HLL.out).mono ?_; rintro e w' ⟨rfl, rfl⟩))
          go_roundw
          case rel => exact ⟨i + 1, s1, al, by omega, by go_num, by go_num, HA2.out, hW2, HC.out⟩
          case measure => simp [intOf]; omega
    · clear hct htk hacc hal
      go_wp2_with (first
        | (go_at_call 15; refine (alive_since hI).mono ?_; rintro e w3 ⟨rfl, hO3, hW3⟩)
        | (go_at_call 11; refine (bytes_since hW3 al HAL.out).mono ?_; rintro e w4 ⟨G, gd, rfl, hG, hO4⟩))
      go_ret
      exact ⟨rfl, (hW3.only hO4).below⟩

end Go.Proofs.Ytfgomjcdgfagbaa
