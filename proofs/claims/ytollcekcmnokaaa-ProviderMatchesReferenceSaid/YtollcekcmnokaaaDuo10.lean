/-
  The program's provider and the reference's, side by side; a value of the first in a box.
-/
import Derived.Test.YtollcekcmnokaaaAlive10B
import Derived.Test.YtollcekcmnokaaaRef10D
namespace Go.Proofs.Ytollcekcmnokaaa
open Go.RowKit Go.BigFrame
set_option linter.unusedVariables false
set_option linter.unusedSimpArgs false

/-- Both providers, made since w, apart from one another. -/
def Duo (t : VT) (ks : List ByteArray) (vs : List VT) (fail : List ByteArray) (r r2 : Nat) (ps ps2 : List ByteArray) (w W : World) : Prop :=
  ∃ T U, Bel w W ∧ Pr t fail r ps W T ∧ Rf ks vs fail r2 ps2 w.heap.size W U ∧ (∀ k, k ∈ T → w.heap.size ≤ k) ∧ (∀ k, k ∈ U → w.heap.size ≤ k) ∧ ∀ k, k ∈ T → k ∉ U
/-- .. and a value that was got, in a box. -/
def DuoB (t : VT) (ks : List ByteArray) (vs : List VT) (fail : List ByteArray) (r r2 : Nat) (ps ps2 : List ByteArray) (b : Nat) (x : VT) (w W : World) : Prop :=
  ∃ T U, Bel w W ∧ Pr t fail r ps W T ∧ Rf ks vs fail r2 ps2 w.heap.size W U ∧ (∀ k, k ∈ T → w.heap.size ≤ k) ∧ (∀ k, k ∈ U → w.heap.size ≤ k) ∧ (∀ k, k ∈ T → k ∉ U) ∧
    Blk W b 27 x.cs ∧ b ∉ T ∧ b ∉ U ∧ x.In W (fun g => g < W.heap.size ∧ g ∉ T ∧ g ∉ U)
section
variable {t : VT} {ks : List ByteArray} {vs : List VT} {fail : List ByteArray} {r r2 : Nat} {ps ps2 : List ByteArray} {b : Nat} {x : VT} {w W W' : World}
theorem Duo.bel (h : Duo t ks vs fail r r2 ps ps2 w W) (hb : Bel W W') : Duo t ks vs fail r r2 ps ps2 w W' := by
  obtain ⟨T, U, h1, h2, h3, h4, h5, h6⟩ := h
  exact ⟨T, U, h1.trans hb, h2.bel hb, h3.bel hb, h4, h5, h6⟩
theorem DuoB.bel (h : DuoB t ks vs fail r r2 ps ps2 b x w W) (hb : Bel W W') : DuoB t ks vs fail r r2 ps ps2 b x w W' := by
  obtain ⟨T, U, h1, h2, h3, h4, h5, h6, h7, h8, h9, h10⟩ := h
  exact ⟨T, U, h1.trans hb, h2.bel hb, h3.bel hb, h4, h5, h6, h7.below hb h7.lt, h8, h9, h10.only (bel_only hb) (fun g hg => ⟨by simp, hg.1⟩) (fun g hg => ⟨Nat.lt_of_lt_of_le hg.1 hb.size, hg.2⟩)⟩
theorem DuoB.duo (h : DuoB t ks vs fail r r2 ps ps2 b x w W) : Duo t ks vs fail r r2 ps ps2 w W := by
  obtain ⟨T, U, h1, h2, h3, h4, h5, h6, _⟩ := h
  exact ⟨T, U, h1, h2, h3, h4, h5, h6⟩
theorem Duo.below (h : Duo t ks vs fail r r2 ps ps2 w W) : Bel w W := by obtain ⟨T, U, h1, _⟩ := h; exact h1
theorem DuoB.below (h : DuoB t ks vs fail r r2 ps ps2 b x w W) : Bel w W := h.duo.below
theorem DuoB.box (h : DuoB t ks vs fail r r2 ps ps2 b x w W) : Blk W b 27 x.cs := by obtain ⟨T, U, _, _, _, _, _, _, h7, _⟩ := h; exact h7
theorem DuoB.tree (h : DuoB t ks vs fail r r2 ps ps2 b x w W) : x.In W (· < W.heap.size) := by
  obtain ⟨T, U, _, _, _, _, _, _, _, _, _, h10⟩ := h
  exact h10.same (fun g hg => hg.1) (fun _ _ _ => rfl)
theorem Duo.st (h : Duo t ks vs fail r r2 ps ps2 w W) : St t fail r ps w W := by
  obtain ⟨T, U, h1, h2, h3, h4, _⟩ := h
  exact ⟨T, h1, h2, h4⟩
/-- The reference's pulled names. -/
theorem Duo.rpulls (h : Duo t ks vs fail r r2 ps ps2 w W) : ∃ A c, Strs W A ps2 ∧ ∀ W' : World, Only [] W W' → W'.cell? ⟨r2, 2, none⟩ = some (.slice A ps2.length c) := by
  obtain ⟨T, U, _, _, ⟨F, fd, L, lc, A, c, h, rfl⟩, _⟩ := h
  exact ⟨A, c, h.pr.strs, fun W' ho => (only_cell ho h.head.lt (by simp)).trans (h.head.cell 2)⟩
/-- The first provider's Get; its value laid in a box. -/
theorem Duo.get1 (h : Duo t ks vs fail r r2 ps ps2 w W) (name : ByteArray) (hs : name.size ≤ maxLen) (hn : ps.length ≤ 1000000) {pv : PV} {c : Int} {ps' : List ByteArray} (hg : getA t fail name = (pv, c)) (hq : pullA ps name = ps') :
    Calls Try.prog 6 #[.pointer (some ⟨r, 0, none⟩), .string name] W fun e w' =>
      ∃ v : VT, e = .returned (.tuple #[.agg #[.int .i64 v.k, .string v.s, .int .i64 v.n, .bool v.b, .slice v.A v.xs.length v.c, .slice v.F v.vs.length v.d], .int .i64 c]) ∧ v.plain = pv ∧
        DuoB t ks vs fail r r2 ps' ps2 w'.heap.size v w (w'.alloc (.cells #[.int .i64 v.k, .string v.s, .int .i64 v.n, .bool v.b, .slice v.A v.xs.length v.c, .slice v.F v.vs.length v.d] 27)) := by
  obtain ⟨T, U, h1, h2, h3, h4, h5, h6⟩ := h
  have hTl := h2.lt
  have hUl := h3.lt
  have hws := h1.size
  refine (Get_c h2 name hs hn).mono fun e w' hr => ?_
  obtain ⟨v, T', e1, e2, e3, e4, e5, e6⟩ := hr.named hg hq
  have hsz := e5.size
  have hU' := h3.only e5 (fun k hk hm => h6 k hm hk) h4
  have hd : ∀ k, k ∈ T' → k ∉ U := fun k hk hm => by
    rcases e4 k hk with h | h
    · exact h6 k h hm
    · have := hUl k hm; omega
  have hT'l := e3.lt
  have ha := Bel.alloc w' (.cells #[.int .i64 v.k, .string v.s, .int .i64 v.n, .bool v.b, .slice v.A v.xs.length v.c, .slice v.F v.vs.length v.d] 27)
  refine ⟨v, e1, e2, T', U, (bel_on h1 e5 h4).trans ha, e3.bel ha, hU'.bel ha, fun k hk => by rcases e4 k hk with h | h; exact h4 k h; omega, h5, hd, Blk.new w' 27 v.cs, fun hm => by have := hT'l _ hm; omega, fun hm => by have := hUl _ hm; omega, ?_⟩
  exact e6.only (bel_only ha) (fun g hg => ⟨by simp, hg.2.1⟩) (fun g hg => ⟨by have := ha.size; omega, hg.2.2, fun hm => by have := hUl g hm; omega⟩)
/-- The first provider's Get; its value laid in a box, beside another box that was laid just before. -/
theorem Duo.get1x {b0 : Nat} {e0 : TypeId} {cs0 : List Value} (h : Duo t ks vs fail r r2 ps ps2 w W) {W1 : World} (hbw : Bel W W1) (hblk : Blk W1 b0 e0 cs0) (hb0 : W.heap.size ≤ b0) (name : ByteArray) (hs : name.size ≤ maxLen) (hn : ps.length ≤ 1000000) {pv : PV} {c : Int} {ps' : List ByteArray} (hg : getA t fail name = (pv, c)) (hq : pullA ps name = ps') :
    Calls Try.prog 6 #[.pointer (some ⟨r, 0, none⟩), .string name] W1 fun e w' =>
      ∃ v : VT, e = .returned (.tuple #[.agg #[.int .i64 v.k, .string v.s, .int .i64 v.n, .bool v.b, .slice v.A v.xs.length v.c, .slice v.F v.vs.length v.d], .int .i64 c]) ∧ v.plain = pv ∧
        DuoB t ks vs fail r r2 ps' ps2 w'.heap.size v w (w'.alloc (.cells #[.int .i64 v.k, .string v.s, .int .i64 v.n, .bool v.b, .slice v.A v.xs.length v.c, .slice v.F v.vs.length v.d] 27)) ∧ Blk (w'.alloc (.cells #[.int .i64 v.k, .string v.s, .int .i64 v.n, .bool v.b, .slice v.A v.xs.length v.c, .slice v.F v.vs.length v.d] 27)) b0 e0 cs0 := by
  obtain ⟨T, U, h1, h2, h3, h4, h5, h6⟩ := h
  have hnT : b0 ∉ T := fun hm => by have := h2.lt b0 hm; omega
  have h1 := h1.trans hbw
  have h2 := h2.bel hbw
  have h3 := h3.bel hbw
  have hTl := h2.lt
  have hUl := h3.lt
  have hws := h1.size
  refine (Get_c h2 name hs hn).mono fun e w' hr => ?_
  obtain ⟨v, T', e1, e2, e3, e4, e5, e6⟩ := hr.named hg hq
  have hsz := e5.size
  have hU' := h3.only e5 (fun k hk hm => h6 k hm hk) h4
  have hd : ∀ k, k ∈ T' → k ∉ U := fun k hk hm => by
    rcases e4 k hk with h | h
    · exact h6 k h hm
    · have := hUl k hm; omega
  have hT'l := e3.lt
  have ha := Bel.alloc w' (.cells #[.int .i64 v.k, .string v.s, .int .i64 v.n, .bool v.b, .slice v.A v.xs.length v.c, .slice v.F v.vs.length v.d] 27)
  refine ⟨v, e1, e2, ⟨T', U, (bel_on h1 e5 h4).trans ha, e3.bel ha, hU'.bel ha, fun k hk => by rcases e4 k hk with h | h; exact h4 k h; omega, h5, hd, Blk.new w' 27 v.cs, fun hm => by have := hT'l _ hm; omega, fun hm => by have := hUl _ hm; omega, ?_⟩, (hblk.only e5 hnT).alloc _⟩
  exact e6.only (bel_only ha) (fun g hg => ⟨by simp, hg.2.1⟩) (fun g hg => ⟨by have := ha.size; omega, hg.2.2, fun hm => by have := hUl g hm; omega⟩)
/-- The reference's Get, beside. -/
theorem DuoB.get2 (h : DuoB t ks vs fail r r2 ps ps2 b x w W) (name : ByteArray) (hs : name.size ≤ maxLen) (hn : ps2.length ≤ 1000000) (hfl : fail.length ≤ 4611686018427387904) {F0 : Option Addr} {d0 : Nat} {pv : PV} {c : Int} {ps' : List ByteArray} (hg : getA (mapT F0 d0 ks vs) fail name = (pv, c)) (hq : pullA ps2 name = ps') :
    Calls Try.prog 12 #[.pointer (some ⟨r2, 0, none⟩), .string name] W fun e w' =>
      ∃ y : VT, e = .returned (.tuple #[.agg #[.int .i64 y.k, .string y.s, .int .i64 y.n, .bool y.b, .slice y.A y.xs.length y.c, .slice y.F y.vs.length y.d], .int .i64 c]) ∧ y.plain = pv ∧ y.In w' (· < w'.heap.size) ∧ DuoB t ks vs fail r r2 ps ps' b x w w' := by
  obtain ⟨T, U, h1, h2, h3, h4, h5, h6, h7, h8, h9, h10⟩ := h
  have hTl := h2.lt
  have hUl := h3.lt
  have hws := h1.size
  refine (refGet_c (F0 := F0) (d0 := d0) h3 name hs hn hfl).mono fun e w' hr => ?_
  obtain ⟨y, U', e1, e2, e3, e4, e5, e6⟩ := hr
  rw [hg] at e1 e2
  rw [hq] at e3
  have hsz := e5.size
  have hd : ∀ k, k ∈ T → k ∉ U' := fun k hk hm => by
    rcases e4 k hm with h | h
    · exact h6 k hk h
    · have := hTl k hk; omega
  refine ⟨y, e1, e2, e6.same (fun g hg => by omega) (fun _ _ _ => rfl), T, U', bel_on h1 e5 h5, h2.only e5 (fun k hk hm => h6 k hk hm), e3, h4, fun k hk => by rcases e4 k hk with h | h; exact h5 k h; omega, hd, h7.only e5 h9, h8, fun hm => ?_, ?_⟩
  · rcases e4 b hm with h | h
    · exact h9 h
    · have := h7.lt; omega
  · refine h10.only e5 (fun g hg => ⟨hg.2.2, hg.1⟩) (fun g hg => ⟨by omega, hg.2.1, fun hm => ?_⟩)
    rcases e4 g hm with h | h
    · exact hg.2.2 h
    · omega
end
theorem duo_start {t : VT} {ks : List ByteArray} {vs : List VT} {fail : List ByteArray} {r r2 : Nat} {w w2 w3 w4 : World} {T U : List Nat} (hb : Bel w w2) (hb3 : Bel w2 w3) (hpr : Pr t fail r [] w3 T) (hT : ∀ k, k ∈ T → w2.heap.size ≤ k) (hb4 : Bel w3 w4) (hrf : Rf ks vs fail r2 [] w.heap.size w4 U) (hU : ∀ k, k ∈ U → w3.heap.size ≤ k) :
    Duo t ks vs fail r r2 [] [] w w4 := by
  have s2 := hb.size
  have s3 := hb3.size
  exact ⟨T, U, (hb.trans hb3).trans hb4, hpr.bel hb4, hrf, fun k hk => Nat.le_trans s2 (hT k hk), fun k hk => Nat.le_trans (Nat.le_trans s2 s3) (hU k hk), fun k hk hm => by have := hpr.lt k hk; have := hU k hm; omega⟩
theorem Duo.pulls {t : VT} {ks : List ByteArray} {vs : List VT} {fail : List ByteArray} {r r2 : Nat} {ps ps2 : List ByteArray} {w W : World} (h : Duo t ks vs fail r r2 ps ps2 w W) (hn : ps.length ≤ 1000000) :
    Calls Try.prog 7 #[.pointer (some ⟨r, 0, none⟩)] W fun e w' => ∃ (G : Option Addr) (d : Nat), e = .returned (.slice G ps.length d) ∧ Strs w' G ps ∧ Bel W w' := by
  obtain ⟨T, U, h1, h2, _⟩ := h
  refine (pulls_c h2 (by omega)).mono fun e w' h4 => ?_
  obtain ⟨G, d, e1, e2, _, e4⟩ := h4
  exact ⟨G, d, e1, e2.strs, e4⟩
theorem Duo.pulls3 {t : VT} {ks : List ByteArray} {vs : List VT} {fail : List ByteArray} {r r2 : Nat} {ps ps2 : List ByteArray} {w W : World} (h : Duo t ks vs fail r r2 ps ps2 w W) (hn : ps.length ≤ 1000000) :
    Calls Try.prog 7 #[.pointer (some ⟨r, 0, none⟩)] W fun e w' => ∃ (G : Option Addr) (d : Nat), e = .returned (.slice G ps.length d) ∧ KRow w' 9 1 fS G d ps ∧ (∀ k, k ∈ rowT G → W.heap.size ≤ k) ∧ Bel W w' := by
  obtain ⟨T, U, h1, h2, _⟩ := h
  refine (pulls_c h2 (by omega)).mono fun e w' h4 => ?_
  obtain ⟨G, d, e1, e2, e3, e4⟩ := h4
  exact ⟨G, d, e1, e2, e3, e4⟩
/-- Two values with the same content are equal. -/
theorem equal_plain {a b : VT} (h : a.plain = b.plain) (W : World) (ha : a.In W (· < W.heap.size)) (hb : b.In W (· < W.heap.size)) :
    Calls Try.prog 13 #[.agg #[.int .i64 a.k, .string a.s, .int .i64 a.n, .bool a.b, .slice a.A a.xs.length a.c, .slice a.F a.vs.length a.d], .agg #[.int .i64 b.k, .string b.s, .int .i64 b.n, .bool b.b, .slice b.A b.xs.length b.c, .slice b.F b.vs.length b.d]] W fun e w' => e = .returned (.bool true) ∧ Bel W w' := by
  have h1 := refEqual_c (SizeOf.sizeOf a + 1) a b W (by omega) ha hb
  rw [VT.eqv_of_plain _ _ _ h] at h1
  exact h1
end Go.Proofs.Ytollcekcmnokaaa
