/-
  The law ParseConcatenation, walked.
-/
import Derived.Test.YtgbppdgpengcoaaDoorMn12
import Derived.Test.YtgbppdgpengcoaaDoorEq12
namespace Go.Proofs.YtgbppdgpengcoaaDoor
open Go.RowKit Go.BigFrame NT
set_option linter.unusedVariables false
set_option linter.unusedSimpArgs false

theorem NT.At.first {w : World} {Q : Nat → Prop} {A : Option Addr} {c : Nat} {l : List NT} (h : At w Q A c l) (k : Nat) : At w Q A c (l.take k) := by
  obtain ⟨⟨h1, h2, h3⟩, h4⟩ := h
  refine ⟨⟨by rw [List.length_take]; omega, h2, by rw [List.length_take]; omega⟩, fun h0 => ?_⟩
  rw [List.length_take] at h0
  obtain ⟨g, o, e, hq, hc⟩ := h4 (by omega)
  refine ⟨g, o, e, hq, fun i x hx => ?_⟩
  rw [List.getElem?_take] at hx
  split at hx
  · exact hc i x hx
  · cases hx
theorem NT.Row.first {w : World} {Q : Nat → Prop} {A : Option Addr} {c : Nat} {l : List NT} (h : Row w Q A c l) (k : Nat) : Row w Q A c (l.take k) := ⟨NT.At.first h.1 k, fun x hx => h.2 x (List.mem_of_mem_take hx)⟩
theorem NT.Row.cut {w : World} {Q : Nat → Prop} {A : Option Addr} {c : Nat} {l : List NT} (h : Row w Q A c l) (k : Nat) (hk : k ≤ l.length) : Row w Q (cutA c k 8 A) (c - k) (l.drop k) := by
  obtain ⟨⟨⟨h1, h2, h3⟩, h4⟩, h5⟩ := h
  refine ⟨⟨⟨by rw [List.length_drop]; omega, by omega, by rw [List.length_drop]; omega⟩, fun h0 => ?_⟩, fun x hx => h5 x (List.mem_of_mem_drop hx)⟩
  rw [List.length_drop] at h0
  obtain ⟨g, o, e, hq, hc⟩ := h4 (by omega)
  subst e
  refine ⟨g, o + k * 8, by unfold cutA; rw [if_neg (by omega)]; simp [add_at], hq, fun i x hx => ?_⟩
  rw [List.getElem?_drop] at hx
  have := hc (k + i) x hx
  rwa [Nat.add_mul, ← Nat.add_assoc] at this
theorem strips_ers : ∀ l : List NT, strips (ers l) = strips l
  | [] => by simp [ers]
  | x :: l => by rw [ers, strips, strips, strip_er, strips_ers l]
set_option maxRecDepth 100000 in
set_option maxHeartbeats 3200000 in
theorem pcBig (a b : ByteArray) (w : World) (hT : MX w) (h : 3000 < a.size ∨ 3000 < b.size) :
    Calls Tryd.prog 6 #[.string a, .string b] w fun e w' => e = .returned (.bool true) ∧ Below w.heap.size w w' := by
  have HT := Lib.hid hT
  have HA := Lib.hid (fun (W : World) (h : MX W) => alive_c W h)
  clear hT
  by_cases h1 : 3000 < a.size
  · have hi : (3000 : Int) < (a.size : Int) := by omega
    clear h h1
    go_enter Tryd.func6, Tryd.ntmps6
    go_wp2_with (go_at_call 9; refine (HA.out _ HT.out).mono ?_; rintro e w1 ⟨rfl, hb⟩)
    go_ret
    exact ⟨rfl, hb⟩
  · have hi : ¬ (3000 : Int) < (a.size : Int) := by omega
    have hj : (3000 : Int) < (b.size : Int) := by omega
    clear h h1
    go_enter Tryd.func6, Tryd.ntmps6
    go_wp2_with (go_at_call 9; refine (HA.out _ HT.out).mono ?_; rintro e w1 ⟨rfl, hb⟩)
    go_ret
    exact ⟨rfl, hb⟩
set_option maxRecDepth 100000 in
set_option maxHeartbeats 3200000 in
theorem pcErr (a b : ByteArray) (w : World) (hT : MX w) (h1 : a.size ≤ 3000) (h2 : b.size ≤ 3000) (r1 r2 : LexR) (k1 : LexOf a r1) (k2 : LexOf b r2) (he : perrR (parR r1) ≠ 0 ∨ perrR (parR r2) ≠ 0) :
    Calls Tryd.prog 6 #[.string a, .string b] w fun e w' => e = .returned (.bool true) ∧ Below w.heap.size w w' := by
  have HT := Lib.hid hT
  have HA := Lib.hid (fun (W : World) (h : MX W) => alive_c W h)
  have H1 := Lib.hid (fun (W : World) (h : MX W) => parse_c a r1 W h k1)
  have H2 := Lib.hid (fun (W : World) (h : MX W) => parse_c b r2 W h k2)
  have hi : ¬ (3000 : Int) < (a.size : Int) := by omega
  have hj : ¬ (3000 : Int) < (b.size : Int) := by omega
  generalize hx : perrR (parR r1) = e1 at he
  generalize hy : perrR (parR r2) = e2 at he
  have HX := Lib.hid hx
  have HY := Lib.hid hy
  clear hT h1 h2 hx hy k1 k2
  by_cases e10 : e1 = 0
  · have e20 : ((e2 : Int) != 0) = true := bne_iff_ne.2 (by omega)
    have e21 : ¬ (e2 : Int) = 0 := by omega
    subst e10
    clear he
    go_enter Tryd.func6, Tryd.ntmps6
    go_wp2_with (first | (go_at_call 10; ((with_reducible refine (H1.out _ HT.out).mono ?_); rintro e w1 hp; obtain ⟨hb, A, c, m, rfl, _, _⟩ := par_any hp; rw [HX.out]; have HB1 := Lib.hid hb; clear hp hb)) | (go_at_call 10; ((with_reducible refine (H2.out _ (HT.out.bel HB1.out)).mono ?_); rintro e w2 hp; obtain ⟨hb, A2, c2, m2, rfl, _, _⟩ := par_any hp; rw [HY.out]; have HB2 := Lib.hid (HB1.out.trans hb); clear hp hb)) | (go_at_call 9; refine (HA.out _ (HT.out.bel HB2.out)).mono ?_; rintro e w3 ⟨rfl, hb⟩; have HB3 := Lib.hid (HB2.out.trans hb); clear hb))
    go_ret
    exact ⟨rfl, HB3.out⟩
  · have e11 : ((e1 : Int) != 0) = true := bne_iff_ne.2 (by omega)
    have e12 : ¬ (e1 : Int) = 0 := by omega
    clear he e10
    go_enter Tryd.func6, Tryd.ntmps6
    go_wp2_with (first | (go_at_call 10; ((with_reducible refine (H1.out _ HT.out).mono ?_); rintro e w1 hp; obtain ⟨hb, A, c, m, rfl, _, _⟩ := par_any hp; rw [HX.out]; have HB1 := Lib.hid hb; clear hp hb)) | (go_at_call 10; ((with_reducible refine (H2.out _ (HT.out.bel HB1.out)).mono ?_); rintro e w2 hp; obtain ⟨hb, A2, c2, m2, rfl, _, _⟩ := par_any hp; rw [HY.out]; have HB2 := Lib.hid (HB1.out.trans hb); clear hp hb)) | (go_at_call 9; refine (HA.out _ (HT.out.bel HB2.out)).mono ?_; rintro e w3 ⟨rfl, hb⟩; have HB3 := Lib.hid (HB2.out.trans hb); clear hb))
    go_ret
    exact ⟨rfl, HB3.out⟩
/-! ### Both are templates -/
theorem last_cell {w1 : World} {A : Option Addr} {c j : Nat} {m lx : List NT} {z : NT} (he : ers m = lx) (hz : lx[j]? = some z) (hR : Row w1 (Lt w1) A c m) : ∃ g o, A = some ⟨g, o, none⟩ ∧ ∀ W, Bel w1 W → W.cell? ⟨g, o + j * 8, none⟩ = some (.int .i64 z.k) := by
  rw [← he, ers_map, List.getElem?_map] at hz
  cases hm : m[j]? with
  | none => rw [hm] at hz; cases hz
  | some x =>
    rw [hm] at hz
    simp only [Option.map_some, Option.some.injEq] at hz
    obtain ⟨g, o, hA, hg, hc⟩ := hR.cells hm
    refine ⟨g, o, hA, fun W hb => ?_⟩
    rw [(hc W hb).1, ← hz, er_k]
theorem par_inv {s : ByteArray} {r : LexR} (hr : LexOf s r) (h : perrR (parR r) = 0) : ∃ ts l c, Lx (toL s) 0 ts ∧ P ts 0 false 0 0 = .ok (l, [], c) := by
  cases r with
  | error bc => obtain ⟨b, c⟩ := bc; exact absurd h (lex_code hr)
  | ok ts =>
    have hx : Lx (toL s) 0 ts := by
      unfold LexOf at hr
      split at hr
      · cases hr
      · exact hr
    unfold parR at h
    dsimp only at h
    cases hp : P ts 0 false 0 0 with
    | error ak => obtain ⟨a, k⟩ := ak; rw [hp] at h; exact absurd h (P_code hp)
    | ok x =>
      obtain ⟨l, rr, c⟩ := x
      obtain rfl := P_top_rest hp
      exact ⟨ts, l, c, hx, hp⟩
theorem len_of {m lx : List NT} {n : Nat} (he : ers m = lx) (hn : lx.length = n) : m.length = n := by rw [← hn, ← he, ers_len]
set_option maxRecDepth 100000 in
set_option maxHeartbeats 3200000 in
theorem pcNil (a b : ByteArray) (w : World) (hT : MX w) (h1 : a.size ≤ 3000) (h2 : b.size ≤ 3000) (ts us : List Tok) (lx ly : List NT) (c1 c2 : Nat) (k1 : Lx (toL a) 0 ts) (k2 : Lx (toL b) 0 us) (p1 : P ts 0 false 0 0 = .ok (lx, [], c1)) (p2 : P us 0 false 0 0 = .ok (ly, [], c2)) (h0 : lx = []) :
    Calls Tryd.prog 6 #[.string a, .string b] w fun e w' => e = .returned (.bool true) ∧ Below w.heap.size w w' := by
  have HT := Lib.hid hT
  have HA := Lib.hid (fun (W : World) (h : MX W) => alive_c W h)
  have H1 : Hid (∀ W, MX W → Calls Tryd.prog 10 #[.string a] W (ParPost a (.ok lx) W)) := Lib.hid (fun W h => by
    have := parse_c a (.ok ts) W h (by unfold LexOf; rw [if_neg (by omega)]; exact k1)
    rw [parR_ok p1] at this
    exact this)
  have H2 : Hid (∀ W, MX W → Calls Tryd.prog 10 #[.string b] W (ParPost b (.ok ly) W)) := Lib.hid (fun W h => by
    have := parse_c b (.ok us) W h (by unfold LexOf; rw [if_neg (by omega)]; exact k2)
    rw [parR_ok p2] at this
    exact this)
  have hi : ¬ (3000 : Int) < (a.size : Int) := by omega
  have hj : ¬ (3000 : Int) < (b.size : Int) := by omega
  obtain ⟨g1, g2, _, _, _, _⟩ := P_good p1 (by decide) (by decide)
  obtain ⟨g3, g4, _, _, _, _⟩ := P_good p2 (by decide) (by decide)
  obtain ⟨n1, hn1⟩ : ∃ n1, lx.length = n1 := ⟨_, rfl⟩
  obtain ⟨n2, hn2⟩ : ∃ n2, ly.length = n2 := ⟨_, rfl⟩
  have hl1 := cnts_le_len lx
  have hl2 := cnts_le_len ly
  have HN1 := Lib.hid hn1
  have HN2 := Lib.hid hn2
  obtain rfl : n1 = 0 := by rw [← hn1, h0]; rfl
  clear hT h1 h2 k1 k2 p1 p2 g1 g2 g3 g4 hn2 hl1 hl2 h0
  go_enter Tryd.func6, Tryd.ntmps6
  go_wp2_with (first | (go_at_call 10; ((with_reducible refine (H1.out _ HT.out).mono ?_); rintro e w1 hp; obtain ⟨hb, A, c, m, he, hr, rfl⟩ := par_ok hp; rw [len_of he HN1.out]; have HB1 := Lib.hid hb; have HE1 := Lib.hid he; have HR1 := Lib.hid hr.lt; clear hp hb he hr)) | (go_at_call 10; ((with_reducible refine (H2.out _ (HT.out.bel HB1.out)).mono ?_); rintro e w2 hp; obtain ⟨hb, A2, cc2, m2, he, hr, rfl⟩ := par_ok hp; rw [len_of he HN2.out]; have HB2 := Lib.hid (HB1.out.trans hb); have HE2 := Lib.hid he; have HR2 := Lib.hid hr.lt; have HR12 := Lib.hid (HR1.out.bel hb); clear hp hb he hr)) | (go_at_call 9; refine (HA.out _ (HT.out.bel HB2.out)).mono ?_; rintro e w3 ⟨rfl, hb⟩; have HB3 := Lib.hid (HB2.out.trans hb); clear hb))
  go_ret
  exact ⟨rfl, HB3.out⟩
set_option maxRecDepth 100000 in
set_option maxHeartbeats 3200000 in
theorem pcText (a b : ByteArray) (w : World) (hT : MX w) (h1 : a.size ≤ 3000) (h2 : b.size ≤ 3000) (ts us : List Tok) (lx ly : List NT) (c1 c2 : Nat) (k1 : Lx (toL a) 0 ts) (k2 : Lx (toL b) 0 us) (p1 : P ts 0 false 0 0 = .ok (lx, [], c1)) (p2 : P us 0 false 0 0 = .ok (ly, [], c2)) (z : NT) (h0 : lx.getLast? = some z) (hz : z.k = 0) (hpos : 0 < lx.length) :
    Calls Tryd.prog 6 #[.string a, .string b] w fun e w' => e = .returned (.bool true) ∧ Below w.heap.size w w' := by
  have HT := Lib.hid hT
  have HA := Lib.hid (fun (W : World) (h : MX W) => alive_c W h)
  have H1 : Hid (∀ W, MX W → Calls Tryd.prog 10 #[.string a] W (ParPost a (.ok lx) W)) := Lib.hid (fun W h => by
    have := parse_c a (.ok ts) W h (by unfold LexOf; rw [if_neg (by omega)]; exact k1)
    rw [parR_ok p1] at this
    exact this)
  have H2 : Hid (∀ W, MX W → Calls Tryd.prog 10 #[.string b] W (ParPost b (.ok ly) W)) := Lib.hid (fun W h => by
    have := parse_c b (.ok us) W h (by unfold LexOf; rw [if_neg (by omega)]; exact k2)
    rw [parR_ok p2] at this
    exact this)
  have hi : ¬ (3000 : Int) < (a.size : Int) := by omega
  have hj : ¬ (3000 : Int) < (b.size : Int) := by omega
  obtain ⟨g1, g2, _, _, _, _⟩ := P_good p1 (by decide) (by decide)
  obtain ⟨g3, g4, _, _, _, _⟩ := P_good p2 (by decide) (by decide)
  obtain ⟨n1, hn1⟩ : ∃ n1, lx.length = n1 := ⟨_, rfl⟩
  obtain ⟨n2, hn2⟩ : ∃ n2, ly.length = n2 := ⟨_, rfl⟩
  have hl1 := cnts_le_len lx
  have hl2 := cnts_le_len ly
  have HN1 := Lib.hid hn1
  have HN2 := Lib.hid hn2
  rw [hn1] at hpos
  obtain ⟨j, hj0⟩ : ∃ j, n1 = j + 1 := ⟨n1 - 1, by omega⟩
  have HZ : Hid (lx[j]? = some z) := Lib.hid (by rw [← h0, List.getLast?_eq_getElem?, hn1, hj0]; rfl)
  have hw1 : IntKind.i64.wrap ((n1 : Int) - 1) = (j : Int) := by rw [IntWalk.i64_in _ (by omega)]; omega
  have hn0 : ((n1 : Int) == 0) = false := by rw [beq_eq_false_iff_ne]; omega
  have hjn : (j : Int) < (n1 : Int) := by omega
  have hjn2 : j < n1 := by omega
  have HK := Lib.hid hz
  clear hT h1 h2 k1 k2 p1 p2 g1 g2 g3 g4 hn1 hn2 hl1 hl2 h0 hz hj0
  go_enter Tryd.func6, Tryd.ntmps6
  go_wp2_with (first | (go_at_call 10; ((with_reducible refine (H1.out _ HT.out).mono ?_); rintro e w1 hp; obtain ⟨hb, A, c, m, he, hr, rfl⟩ := par_ok hp; rw [len_of he HN1.out]; have HB1 := Lib.hid hb; have HE1 := Lib.hid he; have HR1 := Lib.hid hr.lt; clear hp hb he hr)) | (go_at_call 10; ((with_reducible refine (H2.out _ (HT.out.bel HB1.out)).mono ?_); rintro e w2 hp; obtain ⟨hb, A2, cc2, m2, he, hr, rfl⟩ := par_ok hp; rw [len_of he HN2.out]; have HB2 := Lib.hid (HB1.out.trans hb); have HE2 := Lib.hid he; have HR2 := Lib.hid hr.lt; have HR12 := Lib.hid (HR1.out.bel hb); obtain ⟨g, o, hA, hc⟩ := last_cell HE1.out HZ.out HR1.out; subst hA; have a0 := hc _ hb; rw [HK.out] at a0; clear hc; clear hp hb he hr)) | (go_at_call 9; refine (HA.out _ (HT.out.bel HB2.out)).mono ?_; rintro e w3 ⟨rfl, hb⟩; have HB3 := Lib.hid (HB2.out.trans hb); clear hb))
  go_ret
  exact ⟨rfl, HB3.out⟩
set_option maxRecDepth 100000 in
set_option maxHeartbeats 3200000 in
theorem pcMany (a b : ByteArray) (w : World) (hT : MX w) (h1 : a.size ≤ 3000) (h2 : b.size ≤ 3000) (ts us : List Tok) (lx ly : List NT) (c1 c2 : Nat) (k1 : Lx (toL a) 0 ts) (k2 : Lx (toL b) 0 us) (p1 : P ts 0 false 0 0 = .ok (lx, [], c1)) (p2 : P us 0 false 0 0 = .ok (ly, [], c2)) (z : NT) (h0 : lx.getLast? = some z) (hz : z.k ≠ 0) (hpos : 0 < lx.length) (hm : 4096 < c1 + c2) :
    Calls Tryd.prog 6 #[.string a, .string b] w fun e w' => e = .returned (.bool true) ∧ Below w.heap.size w w' := by
  have HT := Lib.hid hT
  have HA := Lib.hid (fun (W : World) (h : MX W) => alive_c W h)
  have H1 : Hid (∀ W, MX W → Calls Tryd.prog 10 #[.string a] W (ParPost a (.ok lx) W)) := Lib.hid (fun W h => by
    have := parse_c a (.ok ts) W h (by unfold LexOf; rw [if_neg (by omega)]; exact k1)
    rw [parR_ok p1] at this
    exact this)
  have H2 : Hid (∀ W, MX W → Calls Tryd.prog 10 #[.string b] W (ParPost b (.ok ly) W)) := Lib.hid (fun W h => by
    have := parse_c b (.ok us) W h (by unfold LexOf; rw [if_neg (by omega)]; exact k2)
    rw [parR_ok p2] at this
    exact this)
  have hi : ¬ (3000 : Int) < (a.size : Int) := by omega
  have hj : ¬ (3000 : Int) < (b.size : Int) := by omega
  obtain ⟨g1, g2, _, _, _, _⟩ := P_good p1 (by decide) (by decide)
  obtain ⟨g3, g4, _, _, _, _⟩ := P_good p2 (by decide) (by decide)
  obtain ⟨n1, hn1⟩ : ∃ n1, lx.length = n1 := ⟨_, rfl⟩
  obtain ⟨n2, hn2⟩ : ∃ n2, ly.length = n2 := ⟨_, rfl⟩
  have hl1 := cnts_le_len lx
  have hl2 := cnts_le_len ly
  have HN1 := Lib.hid hn1
  have HN2 := Lib.hid hn2
  rw [hn1] at hpos
  obtain ⟨j, hj0⟩ : ∃ j, n1 = j + 1 := ⟨n1 - 1, by omega⟩
  have HZ : Hid (lx[j]? = some z) := Lib.hid (by rw [← h0, List.getLast?_eq_getElem?, hn1, hj0]; rfl)
  have hw1 : IntKind.i64.wrap ((n1 : Int) - 1) = (j : Int) := by rw [IntWalk.i64_in _ (by omega)]; omega
  have hn0 : ((n1 : Int) == 0) = false := by rw [beq_eq_false_iff_ne]; omega
  have hjn : (j : Int) < (n1 : Int) := by omega
  have hjn2 : j < n1 := by omega
  have HC1 : Hid (∀ (m : List NT) (A : Option Addr) (c : Nat) (W : World), ers m = lx → Row W (Lt W) A c m → Calls Tryd.prog 14 #[.slice A n1 c] W fun e w' => e = .returned (.int .i64 c1) ∧ Bel W w') := Lib.hid (fun m A c W he hr => by
    have hc : cnts m = c1 := by rw [← cnts_er, he]; omega
    have := count_c hr (by omega)
    rw [len_of he hn1, hc] at this
    exact this)
  have HC2 : Hid (∀ (m : List NT) (A : Option Addr) (c : Nat) (W : World), ers m = ly → Row W (Lt W) A c m → Calls Tryd.prog 14 #[.slice A n2 c] W fun e w' => e = .returned (.int .i64 c2) ∧ Bel W w') := Lib.hid (fun m A c W he hr => by
    have hc : cnts m = c2 := by rw [← cnts_er, he]; omega
    have := count_c hr (by omega)
    rw [len_of he hn2, hc] at this
    exact this)
  have hws : IntKind.i64.wrap ((c1 : Int) + (c2 : Int)) = (c1 : Int) + (c2 : Int) := IntWalk.i64_in _ (by omega)
  have hzk : (z.k == 0) = false := by rw [beq_eq_false_iff_ne]; exact hz
  have hmI : (4096 : Int) < (c1 : Int) + (c2 : Int) := by omega
  clear hT h1 h2 k1 k2 p1 p2 g1 g2 g3 g4 hn1 hn2 hl1 hl2 h0 hj0 hm hz
  go_enter Tryd.func6, Tryd.ntmps6
  go_wp2_with (first | (go_at_call 10; ((with_reducible refine (H1.out _ HT.out).mono ?_); rintro e w1 hp; obtain ⟨hb, A, c, m, he, hr, rfl⟩ := par_ok hp; rw [len_of he HN1.out]; have HB1 := Lib.hid hb; have HE1 := Lib.hid he; have HR1 := Lib.hid hr.lt; clear hp hb he hr)) | (go_at_call 10; ((with_reducible refine (H2.out _ (HT.out.bel HB1.out)).mono ?_); rintro e w2 hp; obtain ⟨hb, A2, cc2, m2, he, hr, rfl⟩ := par_ok hp; rw [len_of he HN2.out]; have HB2 := Lib.hid (HB1.out.trans hb); have HE2 := Lib.hid he; have HR2 := Lib.hid hr.lt; have HR12 := Lib.hid (HR1.out.bel hb); obtain ⟨g, o, hA, hc⟩ := last_cell HE1.out HZ.out HR1.out; subst hA; have a0 := hc _ hb;  clear hc; clear hp hb he hr)) | (go_at_call 14; ((with_reducible refine (HC1.out m _ _ w2 HE1.out HR12.out).mono ?_); rintro e w3 ⟨rfl, hb⟩; have HB3 := Lib.hid (HB2.out.trans hb); have HR23 := Lib.hid (HR2.out.bel hb); have HR13 := Lib.hid (HR12.out.bel hb); clear hb)) | (go_at_call 14; ((with_reducible refine (HC2.out m2 _ _ w3 HE2.out HR23.out).mono ?_); rintro e w4 ⟨rfl, hb⟩; have HB4 := Lib.hid (HB3.out.trans hb); have HR24 := Lib.hid (HR23.out.bel hb); have HR14 := Lib.hid (HR13.out.bel hb); clear hb)) | (go_at_call 9; refine (HA.out _ (HT.out.bel HB4.out)).mono ?_; rintro e w5 ⟨rfl, hb⟩; have HB5 := Lib.hid (HB4.out.trans hb); clear hb))
  go_ret
  exact ⟨rfl, HB5.out⟩
set_option maxRecDepth 100000 in
set_option maxHeartbeats 3200000 in
theorem pcMain (a b : ByteArray) (w : World) (hT : MX w) (h1 : a.size ≤ 3000) (h2 : b.size ≤ 3000) (ts us : List Tok) (lx ly : List NT) (c1 c2 : Nat) (k1 : Lx (toL a) 0 ts) (k2 : Lx (toL b) 0 us) (p1 : P ts 0 false 0 0 = .ok (lx, [], c1)) (p2 : P us 0 false 0 0 = .ok (ly, [], c2)) (z : NT) (h0 : lx.getLast? = some z) (hz : z.k ≠ 0) (hpos : 0 < lx.length) (hm : c1 + c2 ≤ 4096) :
    Calls Tryd.prog 6 #[.string a, .string b] w fun e w' => e = .returned (.bool true) ∧ Below w.heap.size w w' := by
  have HT := Lib.hid hT
  have HA := Lib.hid (fun (W : World) (h : MX W) => alive_c W h)
  have H1 : Hid (∀ W, MX W → Calls Tryd.prog 10 #[.string a] W (ParPost a (.ok lx) W)) := Lib.hid (fun W h => by
    have := parse_c a (.ok ts) W h (by unfold LexOf; rw [if_neg (by omega)]; exact k1)
    rw [parR_ok p1] at this
    exact this)
  have H2 : Hid (∀ W, MX W → Calls Tryd.prog 10 #[.string b] W (ParPost b (.ok ly) W)) := Lib.hid (fun W h => by
    have := parse_c b (.ok us) W h (by unfold LexOf; rw [if_neg (by omega)]; exact k2)
    rw [parR_ok p2] at this
    exact this)
  have hi : ¬ (3000 : Int) < (a.size : Int) := by omega
  have hj : ¬ (3000 : Int) < (b.size : Int) := by omega
  obtain ⟨g1, g2, _, _, _, _⟩ := P_good p1 (by decide) (by decide)
  obtain ⟨g3, g4, _, _, _, _⟩ := P_good p2 (by decide) (by decide)
  obtain ⟨n1, hn1⟩ : ∃ n1, lx.length = n1 := ⟨_, rfl⟩
  obtain ⟨n2, hn2⟩ : ∃ n2, ly.length = n2 := ⟨_, rfl⟩
  have hl1 := cnts_le_len lx
  have hl2 := cnts_le_len ly
  have HN1 := Lib.hid hn1
  have HN2 := Lib.hid hn2
  obtain ⟨vs, y2, q1, q2, q3⟩ := parse_two k1 k2 p1 p2 h0 hz hm
  have H3 : Hid (∀ W, MX W → Calls Tryd.prog 10 #[.string (a ++ b)] W (ParPost (a ++ b) (.ok (lx ++ y2)) W)) := Lib.hid (fun W h => by
    have := parse_c (a ++ b) (.ok vs) W h (by
      unfold LexOf; rw [if_neg (by rw [ByteArray.size_append]; omega)]
      have e : toL (a ++ b) = toL a ++ toL b := by unfold toL; simp
      show Lx (toL (a ++ b)) 0 vs
      rw [e]; exact q1)
    rw [parR_ok q2] at this
    exact this)
  have hy2 : y2.length = n2 := by
    have := congrArg List.length q3
    rw [strips_map, strips_map, List.length_map, List.length_map] at this
    omega
  have HN3 : Hid ((lx ++ y2).length = n1 + n2) := Lib.hid (by rw [List.length_append]; omega)
  have HQ3 := Lib.hid q3
  rw [hn1] at hpos
  obtain ⟨j, hj0⟩ : ∃ j, n1 = j + 1 := ⟨n1 - 1, by omega⟩
  have HZ : Hid (lx[j]? = some z) := Lib.hid (by rw [← h0, List.getLast?_eq_getElem?, hn1, hj0]; rfl)
  have hw1 : IntKind.i64.wrap ((n1 : Int) - 1) = (j : Int) := by rw [IntWalk.i64_in _ (by omega)]; omega
  have hn0 : ((n1 : Int) == 0) = false := by rw [beq_eq_false_iff_ne]; omega
  have hjn : (j : Int) < (n1 : Int) := by omega
  have hjn2 : j < n1 := by omega
  have HC1 : Hid (∀ (m : List NT) (A : Option Addr) (c : Nat) (W : World), ers m = lx → Row W (Lt W) A c m → Calls Tryd.prog 14 #[.slice A n1 c] W fun e w' => e = .returned (.int .i64 c1) ∧ Bel W w') := Lib.hid (fun m A c W he hr => by
    have hc : cnts m = c1 := by rw [← cnts_er, he]; omega
    have := count_c hr (by omega)
    rw [len_of he hn1, hc] at this
    exact this)
  have HC2 : Hid (∀ (m : List NT) (A : Option Addr) (c : Nat) (W : World), ers m = ly → Row W (Lt W) A c m → Calls Tryd.prog 14 #[.slice A n2 c] W fun e w' => e = .returned (.int .i64 c2) ∧ Bel W w') := Lib.hid (fun m A c W he hr => by
    have hc : cnts m = c2 := by rw [← cnts_er, he]; omega
    have := count_c hr (by omega)
    rw [len_of he hn2, hc] at this
    exact this)
  have hws : IntKind.i64.wrap ((c1 : Int) + (c2 : Int)) = (c1 : Int) + (c2 : Int) := IntWalk.i64_in _ (by omega)
  have hzk : (z.k == 0) = false := by rw [beq_eq_false_iff_ne]; exact hz
  have hmI : ¬ (4096 : Int) < (c1 : Int) + (c2 : Int) := by omega
  have hmn : min (n1 : Int) ((n1 : Int) + (n2 : Int)) = (n1 : Int) := by omega
  have hws2 : IntKind.i64.wrap ((n1 : Int) + (n2 : Int)) = (n1 : Int) + (n2 : Int) := IntWalk.i64_in _ (by omega)
  have hws3 : IntKind.i64.wrap ((a.size : Int) + (b.size : Int)) = (a.size : Int) + (b.size : Int) := IntWalk.i64_in _ (by omega)
  have hsz : a.size + b.size ≤ 6000 := by omega
  clear hT h1 h2 k1 k2 p1 p2 g1 g2 g3 g4 hn1 hn2 hl1 hl2 h0 hj0 hm hz q1 q2 q3 hy2
  go_enter Tryd.func6, Tryd.ntmps6
  go_wp2_with (first | (go_at_call 10; ((with_reducible refine (H1.out _ HT.out).mono ?_); rintro e w1 hp; obtain ⟨hb, A, c, m, he, hr, rfl⟩ := par_ok hp; rw [len_of he HN1.out]; have HB1 := Lib.hid hb; have HE1 := Lib.hid he; have HR1 := Lib.hid hr.lt; clear hp hb he hr)) | (go_at_call 10; ((with_reducible refine (H2.out _ (HT.out.bel HB1.out)).mono ?_); rintro e w2 hp; obtain ⟨hb, A2, cc2, m2, he, hr, rfl⟩ := par_ok hp; rw [len_of he HN2.out]; have HB2 := Lib.hid (HB1.out.trans hb); have HE2 := Lib.hid he; have HR2 := Lib.hid hr.lt; have HR12 := Lib.hid (HR1.out.bel hb); obtain ⟨g, o, hA, hc⟩ := last_cell HE1.out HZ.out HR1.out; subst hA; have a0 := hc _ hb;  clear hc; clear hp hb he hr)) | (go_at_call 14; ((with_reducible refine (HC1.out m _ _ w2 HE1.out HR12.out).mono ?_); rintro e w3 ⟨rfl, hb⟩; have HB3 := Lib.hid (HB2.out.trans hb); have HR23 := Lib.hid (HR2.out.bel hb); have HR13 := Lib.hid (HR12.out.bel hb); clear hb)) | (go_at_call 14; ((with_reducible refine (HC2.out m2 _ _ w3 HE2.out HR23.out).mono ?_); rintro e w4 ⟨rfl, hb⟩; have HB4 := Lib.hid (HB3.out.trans hb); have HR24 := Lib.hid (HR23.out.bel hb); have HR14 := Lib.hid (HR13.out.bel hb); clear hb)) | (go_at_call 10; ((with_reducible refine (H3.out _ (HT.out.bel HB4.out)).mono ?_); rintro e w5 hp; obtain ⟨hb, A3, cc3, m3, he, hr, rfl⟩ := par_ok hp; rw [len_of he HN3.out]; have hcap : n1 + n2 ≤ cc3 := (by have h9 := hr.1.1.1; rw [len_of he HN3.out] at h9; exact h9); have hcap1 : n1 ≤ cc3 := (by omega); have hcap2 : (n1 : Int) ≤ (cc3 : Int) := (by omega); have hcap3 : ((n1 : Int) + (n2 : Int)) ≤ (cc3 : Int) := (by omega); have hn12 : (n1 : Int) ≤ (n1 : Int) + (n2 : Int) := (by omega); have HB5 := Lib.hid (HB4.out.trans hb); have HE3 := Lib.hid he; have HR3 := Lib.hid hr.lt; have HR15 := Lib.hid (HR14.out.bel hb); have HR25 := Lib.hid (HR24.out.bel hb); clear hp hb he hr)) | (go_at_call 9; refine (HA.out _ (HT.out.bel HB5.out)).mono ?_; rintro e w6 ⟨rfl, hb⟩; have HB56 := Lib.hid hb; have HB6 := Lib.hid (HB5.out.trans hb); clear hb))
  have HQ1 := Lib.hid (fun W (hb : Bel w6 W) => by
    have h := equal_c true (NT.Row.first ((HR3.out.bel HB56.out).bel hb) n1) ((HR15.out.bel HB56.out).bel hb) (by
      rw [keys_true, keys_true, HE1.out, ers_map, List.map_take, ← ers_map, HE3.out, ← HN1.out, List.take_left])
    rw [show (List.take n1 m3).length = n1 by rw [List.length_take, len_of HE3.out HN3.out]; omega, len_of HE1.out HN1.out] at h
    exact h)
  refine (HQ1.out w6 (Bel.refl _)).mono ?_
  rintro e w7 ⟨rfl, hb⟩
  have HB67 := Lib.hid hb
  clear hb
  have HQ2 := Lib.hid (fun W (hb : Bel w7 W) => by
    have h := equal_c false (NT.Row.cut ((HR3.out.bel (HB56.out.trans HB67.out)).bel hb) n1 (by rw [len_of HE3.out HN3.out]; omega)) ((HR25.out.bel (HB56.out.trans HB67.out)).bel hb) (by
      rw [keys_false, keys_false, strips_map, List.map_drop, ← strips_map, ← strips_ers m3, HE3.out, strips_map, ← List.map_drop, ← HN1.out, List.drop_left, ← strips_map, HQ3.out, ← HE2.out, strips_ers])
    rw [show (List.drop n1 m3).length = n2 by rw [List.length_drop, len_of HE3.out HN3.out]; omega, len_of HE2.out HN2.out] at h
    exact h)
  go_wp2_with fail
  · have HQ4 := HQ2.out w7 (Bel.refl _)
    rw [show cutA cc3 n1 8 A3 = A3 by unfold cutA; rw [if_pos (by omega)], show cc3 - n1 = 0 by omega] at HQ4
    refine HQ4.mono ?_
    rintro e w8 ⟨rfl, hb⟩
    have HB8 := Lib.hid (HB6.out.trans (HB67.out.trans hb))
    clear hb HQ4
    go_wp2_with fail
    go_ret
    exact ⟨rfl, HB8.out⟩
  · have HQ4 := HQ2.out w7 (Bel.refl _)
    rw [show cutA cc3 n1 8 A3 = Option.map (fun x => x.add (n1 * 8)) A3 by unfold cutA; rw [if_neg (by omega)]] at HQ4
    refine HQ4.mono ?_
    rintro e w8 ⟨rfl, hb⟩
    have HB8 := Lib.hid (HB6.out.trans (HB67.out.trans hb))
    clear hb HQ4
    go_wp2_with fail
    go_ret
    exact ⟨rfl, HB8.out⟩
theorem pcLaw (a b : ByteArray) (w : World) (hT : MX w) (ha : a.size ≤ maxLen) (hb : b.size ≤ maxLen) :
    Calls Tryd.prog 6 #[.string a, .string b] w fun e w' => e = .returned (.bool true) ∧ Below w.heap.size w w' := by
  by_cases h : 3000 < a.size ∨ 3000 < b.size
  · exact pcBig a b w hT h
  have h1 : a.size ≤ 3000 := by omega
  have h2 : b.size ≤ 3000 := by omega
  obtain ⟨r1, k1, _⟩ := lexOf_total a
  obtain ⟨r2, k2, _⟩ := lexOf_total b
  by_cases he : perrR (parR r1) ≠ 0 ∨ perrR (parR r2) ≠ 0
  · exact pcErr a b w hT h1 h2 r1 r2 k1 k2 he
  obtain ⟨ts, lx, c1, i1, i2⟩ := par_inv k1 (by omega)
  obtain ⟨us, ly, c2, j1, j2⟩ := par_inv k2 (by omega)
  cases hz : lx.getLast? with
  | none => exact pcNil a b w hT h1 h2 ts us lx ly c1 c2 i1 j1 i2 j2 (List.getLast?_eq_none_iff.1 hz)
  | some z =>
    have hpos : 0 < lx.length := by
      cases lx with
      | nil => simp at hz
      | cons x lx => simp
    by_cases hk : z.k = 0
    · exact pcText a b w hT h1 h2 ts us lx ly c1 c2 i1 j1 i2 j2 z hz hk hpos
    by_cases hm : 4096 < c1 + c2
    · exact pcMany a b w hT h1 h2 ts us lx ly c1 c2 i1 j1 i2 j2 z hz hk hpos hm
    · exact pcMain a b w hT h1 h2 ts us lx ly c1 c2 i1 j1 i2 j2 z hz hk hpos (by omega)
end Go.Proofs.YtgbppdgpengcoaaDoor
