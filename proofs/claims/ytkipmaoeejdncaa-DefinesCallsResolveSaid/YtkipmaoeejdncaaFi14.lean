/-
  The law DefinesFindMatchesReference, walked.
-/
import Derived.Test.YtkipmaoeejdncaaAl14
namespace Go.Proofs.Ytkipmaoeejdncaa
open Go.RowKit Go.BigFrame NT
set_option linter.unusedVariables false
set_option linter.unusedSimpArgs false

theorem zn_in (w : World) : ZN.In w (Lt w) := .mk _ (by decide) (by decide) (by decide) (by decide) (Row.nil w (Lt w)).1 (Row.nil w (Lt w)).1 (fun _ h => by cases h) (fun _ h => by cases h)
/-- A row of one node that was just written. -/
theorem row_one {w : World} {g : Nat} {t : NT} (h : Blk w g 25 t.cs) (ht : t.In w (Lt w)) : Row w (Lt w) (some ⟨g, 0, none⟩) 1 [t] := by
  have h1 : KRow w 25 8 NT.cs (some ⟨g, 0, none⟩) 1 [t] := KRow.of_blk (l := [t]) (by rw [flat_one]; exact h) NT.cs_len (by show 1 ≤ maxLen; decide)
  refine NT.row_of h1 (by show 1 ≤ 100000; decide) (fun b hb => ?_) (fun x hx => ?_)
  · rw [rowT_some, List.mem_singleton] at hb
    subst hb
    exact h.lt
  · rw [List.mem_singleton] at hx
    subst hx
    exact ht
theorem equal_one {t d : NT} {w : World} (h : t.er = d.er) (ht : t.In w (Lt w)) (hd : d.In w (Lt w)) :
    Calls Try.prog 9 #[.slice (some ⟨w.heap.size, 0, none⟩) 1 1, .slice (some ⟨w.heap.size + 1, 0, none⟩) 1 1, .bool true] ((w.alloc (.cells #[.int .i64 t.k, .int .i64 t.a, .string t.s, .string t.p, .bool t.h, .bool t.e, .slice t.A t.b.length t.c, .slice t.B t.l.length t.d] 25)).alloc (.cells #[.int .i64 d.k, .int .i64 d.a, .string d.s, .string d.p, .bool d.h, .bool d.e, .slice d.A d.b.length d.c, .slice d.B d.l.length d.d] 25)) fun e w' => e = .returned (.bool true) ∧ Bel w w' := by
  have hb := (Bel.alloc w (.cells t.cs.toArray 25)).trans (Bel.alloc _ (.cells d.cs.toArray 25))
  refine (equal_c true (l := [t]) (m := [d]) (row_one ((Blk.new w 25 t.cs).bel (Bel.alloc _ _)) (ht.bel hb)) (row_one (blk_at1 w _ 25 d.cs) (hd.bel hb)) ?_).mono ?_
  · rw [keys_true, keys_true, ers_map, ers_map, List.map_cons, List.map_cons, h]
  · rintro e w' ⟨rfl, hb2⟩
    exact ⟨rfl, hb.trans hb2⟩
/-- What both Finds answer: the node, and whether there is one. -/
def fnd (m : List NT) (nm : ByteArray) : NT × Bool := match findN m nm with | some d => (d, true) | none => (ZN, false)
theorem dfind14 {m : List NT} {A : Option Addr} {c : Nat} {w : World} (hA : Row w (Lt w) A c m) (ht : tots m ≤ 5000) (nm : ByteArray) {d : NT} {b : Bool} (h : fnd m nm = (d, b)) :
    Calls Try.prog 6 #[.slice A m.length c, .string nm] w fun e w' => ∃ t : NT, t.er = d.er ∧ t.In w' (Lt w') ∧ e = .returned (.tuple #[t.vv, .bool b]) ∧ Bel w w' := by
  refine (dfind_c hA ht nm).mono ?_
  unfold fnd at h
  rintro e w' ⟨hb, ⟨d', t, h1, h2, h3, rfl⟩ | ⟨h1, rfl⟩⟩
  · rw [h1] at h
    injection h with e1 e2
    subst e1 e2
    exact ⟨t, h2, h3, rfl, hb⟩
  · rw [h1] at h
    injection h with e1 e2
    subst e1 e2
    exact ⟨ZN, rfl, zn_in _, rfl, hb⟩
theorem rfind14 {m : List NT} {A : Option Addr} {c : Nat} {w : World} (hA : Row w (Lt w) A c m) (nm : ByteArray) {d : NT} {b : Bool} (h : fnd m nm = (d, b)) :
    Calls Try.prog 7 #[.slice A m.length c, .string nm] w fun e w' => e = .returned (.tuple #[d.vv, .bool b]) ∧ Bel w w' ∧ d.In w' (Lt w') := by
  refine (rfind_c hA nm).mono ?_
  unfold fnd at h
  rintro e w' ⟨hb, ⟨d', h1, rfl⟩ | ⟨h1, rfl⟩⟩
  · rw [h1] at h
    injection h with e1 e2
    subst e1 e2
    exact ⟨rfl, hb, (hA.2 d' (findN_some h1).1).bel hb⟩
  · rw [h1] at h
    injection h with e1 e2
    subst e1 e2
    exact ⟨rfl, hb, zn_in _⟩
set_option maxRecDepth 100000 in
set_option maxHeartbeats 6400000 in
theorem fiLaw (s nm : ByteArray) (w : World) (hs : s.size ≤ maxLen) (hn : nm.size ≤ maxLen) :
    Calls Try.prog 3 #[.string s, .string nm] w fun e w' => e = .returned (.bool true) ∧ Below w.heap.size w w' := by
  obtain ⟨l1, hl1, hP1⟩ := parsed_ex s
  have HPA := Lib.hid hP1
  have HLA := Lib.hid hl1
  have HAL := Lib.hid (fun W => alive_c W)
  clear hP1 hl1 hs hn
  go_enter Try.func3, Try.ntmps3
  go_wp2_with (first
    | (go_at_call 5; ((with_reducible refine (HPA.out w).mono ?_); rintro e w1 hp; obtain ⟨hb, A1, c1, m1, rfl, hr, he⟩ := hp.row; obtain ⟨⟨d, b⟩, hf⟩ : ∃ f, f = fnd m1 nm := ⟨_, rfl⟩; have HF := Lib.hid hf.symm; have HB1 := Lib.hid hb; have HE1 := Lib.hid he; have HX1 := Lib.hid hr; have HT1 := Lib.hid (tots_of he HLA.out); clear hp he hr hb hf))
    | (go_at_call 6; ((with_reducible refine (dfind14 HX1.out HT1.out nm HF.out).mono ?_); rintro e w2 ⟨t, het, hin, rfl, hb⟩; have HB2 := Lib.hid (HB1.out.trans hb); have HX2 := Lib.hid (HX1.out.bel hb); have HET := Lib.hid het; have HI2 := Lib.hid hin; clear het hin hb; have HC2 := Lib.hid (Blk.new w2 25 t.cs); unfold NT.vv))
    | (go_at_call 7; ((with_reducible refine (rfind14 (HX2.out.bel (Bel.alloc w2 _)) nm HF.out).mono ?_); rintro e w3 ⟨rfl, hb, hd⟩; have hb2 := (Bel.alloc w2 (.cells t.cs.toArray 25)).trans hb; have HB3 := Lib.hid (HB2.out.trans hb2); have HI3 := Lib.hid (HI2.out.bel hb2); have HD3 := Lib.hid hd; have HC3 := Lib.hid (Blk.bel HC2.out hb); have HE3 := Lib.hid (Blk.new w3 25 d.cs); clear hb hb2 hd; unfold NT.vv))
    | (go_at_call 8; ((with_reducible refine (HAL.out _).mono ?_); rintro e w4 ⟨rfl, hb⟩; have hb2 := (Bel.alloc w3 (.cells d.cs.toArray 25)).trans hb; have HB4 := Lib.hid (HB3.out.trans hb2); have HI4 := Lib.hid (HI3.out.bel hb2); have HD4 := Lib.hid (HD3.out.bel hb2); have HC4 := Lib.hid (Blk.bel HC3.out hb2); have HE4 := Lib.hid (Blk.bel HE3.out hb); obtain ⟨x0, x1, x2, x3, x4, x5, x6, x7⟩ := cells8 HC4.out; obtain ⟨y0, y1, y2, y3, y4, y5, y6, y7⟩ := cells8 (Blk.bel HE4.out (Bel.alloc w4 (.cells #[.int .i64 t.k, .int .i64 t.a, .string t.s, .string t.p, .bool t.h, .bool t.e, .slice t.A t.b.length t.c, .slice t.B t.l.length t.d] 25))); clear hb hb2))
    | (go_at_call 9; ((with_reducible refine (equal_one HET.out HI4.out HD4.out).mono ?_); rintro e w5 ⟨rfl, hb⟩; have HB5 := Lib.hid (HB4.out.trans hb); clear hb)))
  go_ret
  exact ⟨rfl, HB5.out⟩
end Go.Proofs.Ytkipmaoeejdncaa
