/-
  Contract: the laws' alive, walked.
-/
import Derived.Test.YtollcekcmnokaaaAlive10
namespace Go.Proofs.Ytollcekcmnokaaa
open Go.RowKit Go.BigFrame
set_option linter.unusedVariables false
set_option linter.unusedSimpArgs false

/-- slices.Equal of two rows of strings. -/
theorem equalK_c {w : World} {A B : Option Addr} {l m : List ByteArray} (hl : Strs w A l) (hm : Strs w B m) (c d : Nat) (h1 : l.length ≤ 1000000) (h2 : m.length ≤ 1000000) (b : Bool) (hb : decide (l = m) = b) :
    Calls Try.prog 14 #[.slice A l.length c, .slice B m.length d] w fun e w' => e = .returned (.bool b) ∧ Bel w w' := by
  have h := equalS_c hl hm c d (by omega) (by omega)
  rw [hb] at h
  exact h
/-- The provider of the example. -/
theorem ex_new (w : World) : Calls Try.prog 10 #[.slice (some ⟨w.heap.size, 0, none⟩) 1 1, .slice (some ⟨w.heap.size + 1, 0, none⟩) 1 1]
    ((w.alloc (.cells #[.string ⟨#[97]⟩, .int .i64 0, .string ⟨#[]⟩, .int .i64 0, .bool false, .slice none 0 0, .slice none 0 0] 49)).alloc (.cells #[.string ⟨#[98]⟩] 9)) fun e w' =>
      ∃ r T, e = .returned (.tuple #[.pointer (some ⟨r, 0, none⟩), .int .i64 0]) ∧ Bel w w' ∧ Pr (mapT (some ⟨w.heap.size, 0, none⟩) 1 [sA] [VT.zero]) [sB] r [] w' T ∧ ∀ k, k ∈ T → w.heap.size ≤ k := by
  have hb : Bel w ((w.alloc (.cells #[.string ⟨#[97]⟩, .int .i64 0, .string ⟨#[]⟩, .int .i64 0, .bool false, .slice none 0 0, .slice none 0 0] 49)).alloc (.cells #[.string ⟨#[98]⟩] 9)) := (Bel.alloc _ _).trans (Bel.alloc _ _)
  have h1 : Blk ((w.alloc (.cells #[.string ⟨#[97]⟩, .int .i64 0, .string ⟨#[]⟩, .int .i64 0, .bool false, .slice none 0 0, .slice none 0 0] 49)).alloc (.cells #[.string ⟨#[98]⟩] 9)) w.heap.size 49 (fF (sA, VT.zero)) := (Blk.new w 49 (fF (sA, VT.zero))).alloc _
  have h2 : Blk ((w.alloc (.cells #[.string ⟨#[97]⟩, .int .i64 0, .string ⟨#[]⟩, .int .i64 0, .bool false, .slice none 0 0, .slice none 0 0] 49)).alloc (.cells #[.string ⟨#[98]⟩] 9)) (w.heap.size + 1) 9 (fS sB) := two_new w _ 9 (fS sB)
  generalize ((w.alloc (.cells #[.string ⟨#[97]⟩, .int .i64 0, .string ⟨#[]⟩, .int .i64 0, .bool false, .slice none 0 0, .slice none 0 0] 49)).alloc (.cells #[.string ⟨#[98]⟩] 9)) = W at hb h1 h2 ⊢
  have r1 : KRow W 49 7 fF (some ⟨w.heap.size, 0, none⟩) 1 [(sA, VT.zero)] := by
    have h := KRow.of_blk (f := fF) (l := [(sA, VT.zero)]) (by rw [flat_one]; exact h1) fF_len (by simp [maxLen])
    exact h
  have r2 : KRow W 9 1 fS (some ⟨w.heap.size + 1, 0, none⟩) 1 [sB] := by
    have h := KRow.of_blk (f := fS) (l := [sB]) (by rw [flat_one]; exact h2) fS_len (by simp [maxLen])
    exact h
  have hI : (mapT (some ⟨w.heap.size, 0, none⟩) 1 [sA] [VT.zero]).In W (· < W.heap.size) := mapT_in rfl (by decide) r1 (fun x hx => by simp at hx; subst hx; exact zero_in _ _) (fun key hk => by simp at hk; subst hk; decide) (fun k hk => r1.lt k hk)
  refine (New_c _ 1 [sA] [VT.zero] (some ⟨w.heap.size + 1, 0, none⟩) 1 [sB] W hI r2.strs (by decide) (fun s hs => by simp at hs; subst hs; decide)).mono ?_
  intro e w' h
  rcases h with ⟨_, r, T, h1, h2, h3, h4⟩ | ⟨h, _⟩
  · exact ⟨r, T, h1, hb.trans h2, h3, fun k hk => Nat.le_trans hb.size (h4 k hk)⟩
  · exact absurd (ex_newE _ _ hI) h
/-- A provider that was made since w. -/
def St (t : VT) (fail : List ByteArray) (r : Nat) (ps : List ByteArray) (w W : World) : Prop := ∃ T, Bel w W ∧ Pr t fail r ps W T ∧ ∀ k, k ∈ T → w.heap.size ≤ k
theorem St.bel {t : VT} {fail ps : List ByteArray} {r : Nat} {w W W' : World} (h : St t fail r ps w W) (hb : Bel W W') : St t fail r ps w W' := by
  obtain ⟨T, h1, h2, h3⟩ := h
  exact ⟨T, h1.trans hb, h2.bel hb, h3⟩
theorem St.get {t : VT} {fail ps : List ByteArray} {r : Nat} {w W : World} (h : St t fail r ps w W) (name : ByteArray) (hs : name.size ≤ maxLen) (hn : ps.length ≤ 1000000) {pv : PV} {c : Int} {ps' : List ByteArray} (hg : getA t fail name = (pv, c)) (hq : pullA ps name = ps') :
    Calls Try.prog 6 #[.pointer (some ⟨r, 0, none⟩), .string name] W fun e w' =>
      ∃ v : VT, e = .returned (.tuple #[.agg #[.int .i64 v.k, .string v.s, .int .i64 v.n, .bool v.b, .slice v.A v.xs.length v.c, .slice v.F v.vs.length v.d], .int .i64 c]) ∧ St t fail r ps' w w' := by
  obtain ⟨T, h1, h2, h3⟩ := h
  refine (Get_c h2 name hs hn).mono fun e w' h4 => ?_
  obtain ⟨v, T', e1, _, e3, e4, e5, _⟩ := h4.named hg hq
  exact ⟨v, e1, T', bel_on h1 e5 h3, e3, fun k hk => by rcases e4 k hk with h | h; exact h3 k h; have := h1.size; omega⟩
theorem St.pulls {t : VT} {fail ps : List ByteArray} {r : Nat} {w W : World} (h : St t fail r ps w W) (hn : ps.length ≤ 1000000) (n : Nat) (hl : ps.length = n) :
    Calls Try.prog 7 #[.pointer (some ⟨r, 0, none⟩)] W fun e w' => ∃ (G : Option Addr) (d : Nat), e = .returned (.slice G n d) ∧ Strs w' G ps ∧ Bel w w' := by
  obtain ⟨T, h1, h2, h3⟩ := h
  refine (pulls_c h2 (by omega)).mono fun e w' h4 => ?_
  obtain ⟨G, d, e1, e2, _, e4⟩ := h4
  exact ⟨G, d, by rw [← hl]; exact e1, e2.strs, h1.trans e4⟩
set_option maxRecDepth 100000 in
set_option maxHeartbeats 3200000 in
theorem alive10_c (w : World) : Calls Try.prog 9 #[] w fun e w' => e = .returned (.bool true) ∧ Bel w w' := by
  have HN := Lib.hid (ex_new w)
  have HS2 : Hid (sB.size ≤ maxLen ∧ sC.size ≤ maxLen) := Lib.hid (by decide)
  go_enter Try.func9, Try.ntmps9
  go_wp2_with (first
    | (go_at_call 10; refine HN.out.mono ?_; rintro e w2 ⟨r, T, rfl, hb, hpr, hT⟩; have HA2 : Hid (St _ _ r [] w w2) := Lib.hid ⟨T, hb, hpr, hT⟩; clear hb hpr hT)
    | (go_at_call 6; refine ((HA4.out _).get sB HS2.out.1 (by decide) (ex_b _ _) ex_p3).mono ?_; rintro e w5 ⟨v5, rfl, h⟩; have HA5 := Lib.hid (fun o => h.bel (Bel.alloc w5 o)); clear h)
    | (go_at_call 6; refine ((HA3.out _).get sC HS2.out.2 (by decide) (ex_c _ _) ex_p2).mono ?_; rintro e w4 ⟨v4, rfl, h⟩; have HA4 := Lib.hid (fun o => h.bel (Bel.alloc w4 o)); clear h)
    | (go_at_call 6; refine (HA2.out.get sB HS2.out.1 (by decide) (ex_b _ _) ex_p1).mono ?_; rintro e w3 ⟨v3, rfl, h⟩; have HA3 := Lib.hid (fun o => h.bel (Bel.alloc w3 o)); clear h)
    | (go_at_call 7; refine ((HA5.out _).pulls (by decide) 2 rfl).mono ?_; rintro e w6 ⟨G, d, rfl, h1, h2⟩; have HG := Lib.hid (h1.bel (Bel.alloc w6 (.cells #[.string ⟨#[98]⟩, .string ⟨#[99]⟩] 9))); have HB6 := Lib.hid (h2.trans (Bel.alloc w6 (.cells #[.string ⟨#[98]⟩, .string ⟨#[99]⟩] 9))); have HBC := Lib.hid (show Strs (w6.alloc (.cells #[.string ⟨#[98]⟩, .string ⟨#[99]⟩] 9)) (some ⟨w6.heap.size, 0, none⟩) [sB, sC] from KRow.strs (KRow.of_blk (f := fS) (l := [sB, sC]) (Blk.new w6 9 [.string sB, .string sC]) fS_len (by simp [maxLen]))); clear h1 h2)
    | (go_at_call 14; refine (equalK_c HG.out HBC.out d 2 (by decide) (by decide) true (by decide)).mono ?_; rintro e w7 ⟨rfl, h⟩; have HB7 := Lib.hid (HB6.out.trans h); clear h))
  go_ret
  exact ⟨rfl, HB7.out⟩
end Go.Proofs.Ytollcekcmnokaaa
