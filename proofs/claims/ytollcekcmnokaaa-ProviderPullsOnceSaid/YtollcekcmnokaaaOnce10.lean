/-
  slices.Contains of strings; a provider beside a value and a row of names that were got.
-/
import Derived.Test.YtollcekcmnokaaaAlive10B
namespace Go.Proofs.Ytollcekcmnokaaa
open Go.RowKit Go.BigFrame
set_option linter.unusedVariables false
set_option linter.unusedSimpArgs false

/-- What slices.Index gives. -/
def IxS (l : List ByteArray) (nm : ByteArray) (w : World) (e : Ending) (w' : World) : Prop := ∃ i : Int, e = .returned (.int .i64 i) ∧ w = w' ∧ -1 ≤ i ∧ i ≤ 4611686018427387904 ∧ decide (0 ≤ i) = hasB l nm
set_option maxHeartbeats 1000000 in
theorem indexS_c (A : Option Addr) (c : Nat) (l : List ByteArray) (nm : ByteArray) (w : World) (h : Strs w A l) (hn : l.length ≤ 4611686018427387904) :
    Calls Try.prog 26 #[.slice A l.length c, .string nm] w (IxS l nm w) := by
  have HS := Lib.hid h
  clear h
  obtain ⟨n, hN⟩ : ∃ n, n = l.length := ⟨_, rfl⟩
  rw [← hN] at hn ⊢
  have HN := Lib.hid hN
  clear hN
  go_enter Try.func26, Try.ntmps26
  go_wp2_with fail
  go_loop [8] (fun v => ∃ k : Nat, k ≤ n ∧ v = .int .i64 k ∧ Hid (hasB (l.take k) nm = false)) (fun v => n - (intOf v).toNat)
  case atStart => exact ⟨0, Nat.zero_le _, rfl, Lib.hid rfl⟩
  case round =>
    obtain ⟨k, hk, rfl, HA⟩ := hrel
    by_cases hlt : k < n
    · have hkx : k < l.length := by have := HN.out; omega
      have hxk := List.getElem?_eq_getElem hkx
      generalize l[k] = s at hxk
      obtain ⟨g, o, hAA, hg, hc⟩ := HS.out.at_ hxk
      have HXK := Lib.hid hxk
      clear hxk
      subst hAA
      by_cases he : s = nm
      · have HR := Lib.hid (has_yes HXK.out he)
        have he2 : (nm.toList == s.toList) = true := by rw [toList_beq]; simpa using he.symm
        clear he
        go_wp2_with fail
        go_ret
        exact ⟨k, rfl, rfl, by omega, by omega, by rw [HR.out]; simp⟩
      · have HA2 := Lib.hid (has_no HA.out HXK.out he)
        have he2 : (nm.toList == s.toList) = false := by rw [toList_beq]; simpa using fun h => he h.symm
        clear he
        go_wp2_with fail
        go_round
        case rel => exact ⟨k + 1, by omega, by go_num, HA2⟩
        case measure => simp [intOf]; omega
    · obtain rfl : n = k := by omega
      have hr : hasB l nm = false := by have h1 := HA.out; rw [HN.out, List.take_length] at h1; exact h1
      have HR := Lib.hid hr
      clear hr
      go_wp2_with fail
      go_ret
      exact ⟨-1, rfl, rfl, by omega, by omega, by rw [HR.out]; rfl⟩
theorem containsS_c (A : Option Addr) (c : Nat) (l : List ByteArray) (nm : ByteArray) (w : World) (h : Strs w A l) (n : Nat) (hl : l.length = n) (hn : n ≤ 4611686018427387904) (b : Bool) (hb : hasB l nm = b) :
    Calls Try.prog 15 #[.slice A n c, .string nm] w fun e w' => e = .returned (.bool b) ∧ w = w' := by
  have HC := Lib.hid (indexS_c A c l nm w h (by omega))
  rw [hl] at HC
  have HB := Lib.hid hb
  clear h hl hb
  go_enter Try.func15, Try.ntmps15
  go_wp2_with (go_at_call 26; refine HC.out.mono ?_; rintro e w' ⟨i, rfl, rfl, h1, h2, h3⟩; have H3 := Lib.hid h3; clear h3)
  go_ret
  exact ⟨by rw [← HB.out, ← H3.out]; rfl, rfl⟩

/-- A provider beside a value in a box and a row of names. -/
def Sol (t : VT) (fail : List ByteArray) (r : Nat) (ps : List ByteArray) (b : Nat) (x : VT) (G : Option Addr) (gd : Nat) (l : List ByteArray) (w W : World) : Prop :=
  ∃ T, Bel w W ∧ Pr t fail r ps W T ∧ (∀ k, k ∈ T → w.heap.size ≤ k) ∧ Blk W b 27 x.cs ∧ b ∉ T ∧ x.In W (fun g => g < W.heap.size ∧ g ∉ T) ∧ KRow W 9 1 fS G gd l ∧ ∀ k, k ∈ rowT G → k ∉ T
section
variable {t : VT} {fail : List ByteArray} {r : Nat} {ps : List ByteArray} {b : Nat} {x : VT} {G : Option Addr} {gd : Nat} {l : List ByteArray} {w W W' : World}
theorem Sol.bel (h : Sol t fail r ps b x G gd l w W) (hb : Bel W W') : Sol t fail r ps b x G gd l w W' := by
  obtain ⟨T, h1, h2, h3, h4, h5, h6, h7, h8⟩ := h
  exact ⟨T, h1.trans hb, h2.bel hb, h3, h4.below hb h4.lt, h5, h6.only (bel_only hb) (fun g hg => ⟨by simp, hg.1⟩) (fun g hg => ⟨Nat.lt_of_lt_of_le hg.1 hb.size, hg.2⟩), h7.only (bel_only hb) (by simp), h8⟩
theorem Sol.st (h : Sol t fail r ps b x G gd l w W) : St t fail r ps w W := by
  obtain ⟨T, h1, h2, h3, _⟩ := h
  exact ⟨T, h1, h2, h3⟩
theorem Sol.box (h : Sol t fail r ps b x G gd l w W) : Blk W b 27 x.cs := by obtain ⟨T, _, _, _, h4, _⟩ := h; exact h4
theorem Sol.tree (h : Sol t fail r ps b x G gd l w W) : x.In W (· < W.heap.size) := by
  obtain ⟨T, _, _, _, _, _, h6, _⟩ := h
  exact h6.same (fun g hg => hg.1) (fun _ _ _ => rfl)
theorem Sol.strs (h : Sol t fail r ps b x G gd l w W) : Strs W G l := by obtain ⟨T, _, _, _, _, _, _, h7, _⟩ := h; exact h7.strs
theorem Sol.below (h : Sol t fail r ps b x G gd l w W) : Bel w W := by obtain ⟨T, h1, _⟩ := h; exact h1
theorem St.below (h : St t fail r ps w W) : Bel w W := by obtain ⟨T, h1, _⟩ := h; exact h1
theorem St.get1 (h : St t fail r ps w W) (name : ByteArray) (hs : name.size ≤ maxLen) (hn : ps.length ≤ 1000000) {pv : PV} {c : Int} {ps' : List ByteArray} (hg : getA t fail name = (pv, c)) (hq : pullA ps name = ps') :
    Calls Try.prog 6 #[.pointer (some ⟨r, 0, none⟩), .string name] W fun e w' =>
      ∃ v : VT, e = .returned (.tuple #[.agg #[.int .i64 v.k, .string v.s, .int .i64 v.n, .bool v.b, .slice v.A v.xs.length v.c, .slice v.F v.vs.length v.d], .int .i64 c]) ∧ v.plain = pv ∧
        Sol t fail r ps' w'.heap.size v none 0 [] w (w'.alloc (.cells #[.int .i64 v.k, .string v.s, .int .i64 v.n, .bool v.b, .slice v.A v.xs.length v.c, .slice v.F v.vs.length v.d] 27)) := by
  obtain ⟨T, h1, h2, h3⟩ := h
  have hws := h1.size
  refine (Get_c h2 name hs hn).mono fun e w' hr => ?_
  obtain ⟨v, T', e1, e2, e3, e4, e5, e6⟩ := hr.named hg hq
  have hT'l := e3.lt
  have ha := Bel.alloc w' (.cells #[.int .i64 v.k, .string v.s, .int .i64 v.n, .bool v.b, .slice v.A v.xs.length v.c, .slice v.F v.vs.length v.d] 27)
  exact ⟨v, e1, e2, T', (bel_on h1 e5 h3).trans ha, e3.bel ha, fun k hk => by rcases e4 k hk with h | h; exact h3 k h; omega, Blk.new w' 27 v.cs, fun hm => by have := hT'l _ hm; omega,
    e6.only (bel_only ha) (fun g hg => ⟨by simp, hg.2.1⟩) (fun g hg => ⟨by have := ha.size; omega, hg.2.2⟩), KRow.nil _ _ _ _, by simp [rowT]⟩
theorem Sol.pulls (h : Sol t fail r ps b x G gd l w W) (hn : ps.length ≤ 1000000) :
    Calls Try.prog 7 #[.pointer (some ⟨r, 0, none⟩)] W fun e w' => ∃ (G : Option Addr) (d : Nat), e = .returned (.slice G ps.length d) ∧ Sol t fail r ps b x G d ps w w' := by
  obtain ⟨T, h1, h2, h3, h4, h5, h6, h7, h8⟩ := h
  have hTl := h2.lt
  refine (pulls_c h2 (by omega)).mono fun e w' hr => ?_
  obtain ⟨G', d, e1, e2, e3, hb⟩ := hr
  exact ⟨G', d, e1, T, h1.trans hb, h2.bel hb, h3, h4.below hb h4.lt, h5, h6.only (bel_only hb) (fun g hg => ⟨by simp, hg.1⟩) (fun g hg => ⟨Nat.lt_of_lt_of_le hg.1 hb.size, hg.2⟩), e2, fun k hk hm => by have := e3 k hk; have := hTl k hm; omega⟩
theorem Sol.get (h : Sol t fail r ps b x G gd l w W) (name : ByteArray) (hs : name.size ≤ maxLen) (hn : ps.length ≤ 1000000) {pv : PV} {c : Int} {ps' : List ByteArray} (hg : getA t fail name = (pv, c)) (hq : pullA ps name = ps') :
    Calls Try.prog 6 #[.pointer (some ⟨r, 0, none⟩), .string name] W fun e w' =>
      ∃ v : VT, e = .returned (.tuple #[.agg #[.int .i64 v.k, .string v.s, .int .i64 v.n, .bool v.b, .slice v.A v.xs.length v.c, .slice v.F v.vs.length v.d], .int .i64 c]) ∧ v.plain = pv ∧ v.In w' (· < w'.heap.size) ∧ Sol t fail r ps' b x G gd l w w' := by
  obtain ⟨T, h1, h2, h3, h4, h5, h6, h7, h8⟩ := h
  have hws := h1.size
  have hGl := h7.lt
  refine (Get_c h2 name hs hn).mono fun e w' hr => ?_
  obtain ⟨v, T', e1, e2, e3, e4, e5, e6⟩ := hr.named hg hq
  have hsz := e5.size
  refine ⟨v, e1, e2, e6.same (fun g hg => hg.2.1) (fun _ _ _ => rfl), T', bel_on h1 e5 h3, e3, fun k hk => by rcases e4 k hk with h | h; exact h3 k h; omega, h4.only e5 h5, fun hm => ?_, h6.only e5 (fun g hg => ⟨hg.2, hg.1⟩) (fun g hg => ⟨by omega, fun hm => ?_⟩), h7.only e5 h8, fun k hk hm => ?_⟩
  · rcases e4 b hm with h | h
    · exact h5 h
    · have := h4.lt; omega
  · rcases e4 g hm with h | h
    · exact hg.2 h
    · omega
  · rcases e4 k hm with h | h
    · exact h8 k hk h
    · have := hGl k hk; omega
end
theorem St.pulls2 {t : VT} {fail : List ByteArray} {r : Nat} {ps : List ByteArray} {w W : World} (h : St t fail r ps w W) (hn : ps.length ≤ 1000000) :
    Calls Try.prog 7 #[.pointer (some ⟨r, 0, none⟩)] W fun e w' => ∃ (G : Option Addr) (d : Nat), e = .returned (.slice G ps.length d) ∧ Strs w' G ps ∧ Bel W w' := by
  obtain ⟨T, h1, h2, h3⟩ := h
  refine (pulls_c h2 (by omega)).mono fun e w' h4 => ?_
  obtain ⟨G, d, e1, e2, _, e4⟩ := h4
  exact ⟨G, d, e1, e2.strs, e4⟩
theorem St.pulls3 {t : VT} {fail : List ByteArray} {r : Nat} {ps : List ByteArray} {w W : World} (h : St t fail r ps w W) (hn : ps.length ≤ 1000000) :
    Calls Try.prog 7 #[.pointer (some ⟨r, 0, none⟩)] W fun e w' => ∃ (G : Option Addr) (d : Nat), e = .returned (.slice G ps.length d) ∧ KRow w' 9 1 fS G d ps ∧ (∀ k, k ∈ rowT G → W.heap.size ≤ k) ∧ Bel W w' ∧ ps.length ≤ d ∧ d ≤ 9223372036854775807 := by
  obtain ⟨T, h1, h2, h3⟩ := h
  refine (pulls_c h2 (by omega)).mono fun e w' h4 => ?_
  obtain ⟨G, d, e1, e2, e3, e4⟩ := h4
  exact ⟨G, d, e1, e2, e3, e4, e2.le, e2.max⟩
theorem in_bel2 {t : VT} {w W : World} (h : t.In w (· < w.heap.size)) (hb : Bel w W) : t.In W (· < W.heap.size) := h.bel hb
/-- A box's cells, behind whatever new block. -/
theorem alloc_cells {w : World} {b : Nat} {x : VT} (h : Blk w b 27 x.cs) : (∀ o, (w.alloc o).cell? ⟨b, 0, none⟩ = some (.int .i64 x.k)) ∧ (∀ o, (w.alloc o).cell? ⟨b, 1, none⟩ = some (.string x.s)) ∧ (∀ o, (w.alloc o).cell? ⟨b, 2, none⟩ = some (.int .i64 x.n)) ∧ (∀ o, (w.alloc o).cell? ⟨b, 3, none⟩ = some (.bool x.b)) ∧
    (∀ o, (w.alloc o).cell? ⟨b, 4, none⟩ = some (.slice x.A x.xs.length x.c)) ∧ ∀ o, (w.alloc o).cell? ⟨b, 5, none⟩ = some (.slice x.F x.vs.length x.d) :=
  ⟨fun o => (h.alloc o).cell 0, fun o => (h.alloc o).cell 1, fun o => (h.alloc o).cell 2, fun o => (h.alloc o).cell 3, fun o => (h.alloc o).cell 4, fun o => (h.alloc o).cell 5⟩
theorem pullA_again (ps : List ByteArray) (name : ByteArray) : pullA (pullA ps name) name = pullA ps name := by
  unfold pullA
  cases hb : nameB name with
  | false => rfl
  | true =>
    cases hp : hasB ps name with
    | true => simp [hp]
    | false => simp [hasB_push]
theorem pullA_nodup {ps : List ByteArray} {name : ByteArray} (h : ps.Nodup) : (pullA ps name).Nodup := by
  unfold pullA
  split
  · rename_i h1
    rw [Bool.and_eq_true, Bool.not_eq_true'] at h1
    rw [List.nodup_append]
    refine ⟨h, by simp, fun a ha b hb => ?_⟩
    simp at hb
    subst hb
    intro e
    subst e
    have := hasB_iff.2 ha
    rw [h1.2] at this
    cases this
  · exact h
theorem pullA_sub {ps names : List ByteArray} {name : ByteArray} (h : ∀ s, s ∈ ps → s ∈ names) (hn : name ∈ names) : ∀ s, s ∈ pullA ps name → s ∈ names := by
  unfold pullA
  split
  · intro s hs
    rcases List.mem_append.1 hs with h1 | h1
    · exact h s h1
    · simp at h1; subst h1; exact hn
  · exact h
theorem Strs.take {w : World} {A : Option Addr} {l : List ByteArray} (h : Strs w A l) (k : Nat) : Strs w A (l.take k) := by
  rcases h with h | ⟨g, o, h1, h2, h3⟩
  · subst h; exact .inl (by simp)
  · refine .inr ⟨g, o, h1, h2, fun i hi => ?_⟩
    rw [List.length_take] at hi
    rw [h3 i (by omega), List.getD_eq_getElem?_getD, List.getD_eq_getElem?_getD, List.getElem?_take, if_pos (by omega)]
theorem not_before {l : List ByteArray} (h : l.Nodup) {j : Nat} {s : ByteArray} (hj : l[j]? = some s) : hasB (l.take j) s = false := by
  rw [Bool.eq_false_iff]
  intro h2
  have h3 := hasB_iff.1 h2
  obtain ⟨i, hi, e⟩ := List.getElem_of_mem h3
  rw [List.length_take] at hi
  rw [List.getElem_take] at e
  have h9 : l[i]? = some s := by rw [List.getElem?_eq_getElem (by omega)]; exact congrArg some e
  have := (List.getElem?_inj (by omega) h).1 (h9.trans hj.symm)
  omega
end Go.Proofs.Ytollcekcmnokaaa
