/-
  Contract: the program's ending.
  Contract: the program's fill, out of its list.
-/
import Derived.Test.YtpcapmdfjmpdiaaGreatDoorZPk14
import Derived.Test.YtpcapmdfjmpdiaaGreatDoorZPure12
import Derived.Recover
import Derived.WalkLawsBesides
import Derived.Defers
import Derived.Test.YtpcapmdfjmpdiaaGreatDoorZRlist
namespace Go.Proofs.YtpcapmdfjmpdiaaGreatDoor
open Go.RowKit Go.BigFrame NT
set_option linter.unusedVariables false
set_option linter.unusedSimpArgs false
attribute [local go_sem ↓] sliced_cut run_min2 run_max2
attribute [local go_sem] cutA_zero

/-- The program's parser: the tokens that are left, the number of nodes so far. -/
structure Pq (w : World) (g : Nat) (A : Option Addr) (cA : Nat) (ts : List Tok) (c : Nat) : Prop where
  blk : Blk w g 61 [.slice A ts.length cA, .int .i64 c]
  row : KRow w 64 5 Tok.cs A cA ts
  ne : g ∉ rowT A
theorem Pq.only {w w' : World} {g : Nat} {A : Option Addr} {cA : Nat} {ts : List Tok} {c : Nat} {S : List Nat} (h : Pq w g A cA ts c) (ho : Only S w w') (hg : g ∉ S) (hL : ∀ k, k ∈ rowT A → k ∉ S) : Pq w' g A cA ts c :=
  ⟨h.blk.only ho hg, h.row.only ho hL, h.ne⟩
theorem Pq.cells {w : World} {g : Nat} {A : Option Addr} {cA : Nat} {ts : List Tok} {c : Nat} (h : Pq w g A cA ts c) :
    w.cell? ⟨g, 0, none⟩ = some (.slice A ts.length cA) ∧ w.cell? ⟨g, 1, none⟩ = some (.int .i64 c) := ⟨h.blk.cell 0, h.blk.cell 1⟩
theorem Pq.frees {w : World} {g : Nat} {A : Option Addr} {cA : Nat} {ts : List Tok} {c : Nat} (h : Pq w g A cA ts c) :
    w.frozen? ⟨g, 0, none⟩ = false ∧ w.frozen? ⟨g, 1, none⟩ = false := ⟨h.blk.free 0, h.blk.free 1⟩
/-- The first token, as cells. -/
theorem Pq.tok {w : World} {g : Nat} {A : Option Addr} {cA : Nat} {t : Tok} {r : List Tok} {c : Nat} (h : Pq w g A cA (t :: r) c) :
    ∃ g1 o1, A = some ⟨g1, o1, none⟩ ∧ g1 < w.heap.size ∧ w.cell? ⟨g1, o1, none⟩ = some (.int .i64 t.k) ∧ w.cell? ⟨g1, o1 + 1, none⟩ = some (.int .i64 t.a) ∧ w.cell? ⟨g1, o1 + 2, none⟩ = some (.string (ofL t.s)) ∧ w.cell? ⟨g1, o1 + 3, none⟩ = some (.string (ofL t.p)) ∧ w.cell? ⟨g1, o1 + 4, none⟩ = some (.bool t.h) := by
  obtain ⟨g1, o1, e, hc⟩ := tok_at (i := 0) (t := t) h.row rfl
  obtain ⟨c0, c1, c2, c3, c4⟩ := hc w (Bel.refl _)
  simp only [Nat.zero_mul, Nat.add_zero] at c0 c1 c2 c3 c4
  exact ⟨g1, o1, e, h.row.lt g1 (by rw [e]; simp [rowT]), c0, c1, c2, c3, c4⟩
/-- The first token is taken. -/
theorem Pq.take {w : World} {g : Nat} {A : Option Addr} {cA : Nat} {t : Tok} {r : List Tok} {c : Nat} (h : Pq w g A cA (t :: r) c) : Pq (w.setCell ⟨g, 0, none⟩ (.slice (cutA cA 1 5 A) r.length (cA - 1))) g (cutA cA 1 5 A) (cA - 1) r c := by
  have h1 := h.row.cut tok_len 1 (by simp)
  refine ⟨h.blk.set_ 0 _, h1.only (S := [g]) ((Only.refl [g] w).setCell (.inl (by simp)) _) (fun k hk => ?_), by rw [rowT_cut]; exact h.ne⟩
  rw [rowT_cut] at hk
  intro hk2
  simp at hk2
  subst hk2
  exact h.ne hk
theorem Pq.count {w : World} {g : Nat} {A : Option Addr} {cA : Nat} {ts : List Tok} {c : Nat} (h : Pq w g A cA ts c) (j : Nat) : Pq (w.setCell ⟨g, 1, none⟩ (.int .i64 (j : Int))) g A cA ts j :=
  ⟨h.blk.set_ 1 _, h.row.only (S := [g]) ((Only.refl [g] w).setCell (.inl (by simp)) _) (fun k hk h1 => by simp at h1; subst h1; exact h.ne hk), h.ne⟩
/-- What the parser panics with. -/
def flt (a k : Nat) : Value := .iface 58 (.agg #[.int .i64 a, .int .i64 k])
abbrev tval (t : Tok) : Value := .agg #[.int .i64 t.k, .int .i64 t.a, .string (ofL t.s), .string (ofL t.p), .bool t.h]
theorem ending_none (g b : Nat) (A : Option Addr) (cA c a : Nat) (w : World) (hP : Pq w g A cA [] c) (hb : w.cell? ⟨b, 1, none⟩ = some (.int .i64 a)) (hbl : b < w.heap.size) :
    Calls Tryz.prog 103 #[.pointer (some ⟨g, 0, none⟩), .pointer (some ⟨b, 0, none⟩)] w fun e w' => e = .panicked [{ v := flt a 7, recovered := false }] ∧ Bel w w' := by
  have hgl := hP.blk.lt
  obtain ⟨q0, q1⟩ := hP.cells
  simp only [List.length_nil] at q0
  have hg1 : ¬ g = w.heap.size := by omega
  have hg2 : ¬ b = w.heap.size := by omega
  clear hP
  go_enter Tryz.func103, Tryz.ntmps103
  go_wp2_with fail
  exact ⟨rfl, rfl, Bel.alloc _ _⟩
theorem doneT {f : Func} (hf : f.results = #[.cell 4 64]) {tmps : Array Value} {b : Nat} {v0 v1 v2 v3 v4 : Value} {W : World} (hp : tmps.getD 4 undef = .pointer (some ⟨b, 0, none⟩))
    (h1 : v0.oneCell' = true ∧ v1.oneCell' = true ∧ v2.oneCell' = true ∧ v3.oneCell' = true ∧ v4.oneCell' = true)
    (hB : Blk W b 64 [v0, v1, v2, v3, v4]) : (results f tmps).run Tryz.prog W = .ok (.agg #[v0, v1, v2, v3, v4]) W := by
  have hp' : tmps[4]?.getD undef = .pointer (some ⟨b, 0, none⟩) := by simpa using hp
  have hl := run_loadVar_row W b 64 #[v0, v1, v2, v3, v4] (0, 0) _ (P := Tryz.prog) (ty := 64) hB Tryz.underlying64 rfl (by kernel_rfl)
  simp [results, hf, hp', asAddr, hl]
set_option maxRecDepth 100000 in
set_option maxHeartbeats 1600000 in
theorem ending_some (g : Nat) (b : Addr) (A : Option Addr) (cA c : Nat) (t : Tok) (r : List Tok) (w : World) (hP : Pq w g A cA (t :: r) c) :
    Calls Tryz.prog 103 #[.pointer (some ⟨g, 0, none⟩), .pointer (some b)] w fun e w' => e = .returned (tval t) ∧ Only [g] w w' ∧ Pq w' g (cutA cA 1 5 A) (cA - 1) r c := by
  have hgl := hP.blk.lt
  have HP := Lib.hid hP
  have hle := hP.row.le
  have hmx := hP.row.max
  unfold maxLen at hmx
  obtain ⟨q0, q1⟩ := hP.cells
  obtain ⟨f0, f1⟩ := hP.frees
  obtain ⟨g1, o1, rfl, hg1, c0, c1, c2, c3, c4⟩ := hP.tok
  simp only [List.length_cons] at q0 hle
  have e1 : ¬ g = w.heap.size := by omega
  have e2 : ¬ g1 = w.heap.size := by omega
  have e3 : ¬ g = w.heap.size + 1 := by omega
  have e4 : ¬ w.heap.size = g := by omega
  have e5 : ¬ w.heap.size + 1 = g := by omega
  have HRL : Hid (∃ n, n = r.length) := Lib.hid ⟨_, rfl⟩
  clear hP
  go_enter Tryz.func103, Tryz.ntmps103
  go_wp2_with fail
  have hB := (Blk.new (w.setCell ⟨g, 0, none⟩ (.slice (cutA cA 1 5 (some ⟨g1, o1, none⟩)) r.length (cA - 1))) 64 [.int .i64 t.k, .int .i64 t.a, .string (ofL t.s), .string (ofL t.p), .bool t.h]).alloc (.cells #[.int .i64 t.k, .int .i64 t.a, .string (ofL t.s), .string (ofL t.p), .bool t.h] 64)
  rw [show (w.setCell ⟨g, 0, none⟩ (.slice (cutA cA 1 5 (some ⟨g1, o1, none⟩)) r.length (cA - 1))).heap.size = w.heap.size by simp [World.setCell]] at hB
  refine bodyPost_ret (doneT rfl rfl ⟨rfl, rfl, rfl, rfl, rfl⟩ hB) rfl ⟨rfl, ?_, ?_⟩
  · exact (((Only.refl [g] w).setCell (.inl (by simp)) _).alloc _).alloc _
  · have h := HP.out.take
    refine h.only (S := []) ((((Only.refl [] _).alloc _).alloc _)) (by simp) (by simp)
end Go.Proofs.YtpcapmdfjmpdiaaGreatDoor

namespace Go.Proofs.YtpcapmdfjmpdiaaGreatDoor
open Go.RowKit Go.BigFrame NT
set_option linter.unusedVariables false
set_option linter.unusedSimpArgs false

theorem TsOk.drop {ts : List Tok} (h : TsOk ts) (k : Nat) : TsOk (ts.drop k) :=
  ⟨by have := h.1; rw [List.length_drop]; omega, fun t ht => h.2 t (List.mem_of_mem_drop ht)⟩
theorem TsOk.tail {t : Tok} {r : List Tok} (h : TsOk (t :: r)) : TsOk r := h.drop 1
abbrev pan (a k : Nat) : Ending := .panicked [{ v := .iface 58 (.agg #[.int .i64 a, .int .i64 k]), recovered := false }]
/-- How list ends. -/
def ListPq (g : Nat) (A : Option Addr) (ts : List Tok) (w : World) (res : PR) (e : Ending) (w' : World) : Prop := Only [g] w w' ∧ match res with
  | .error (a, k) => e = pan a k
  | .ok (l, r, c) => ∃ (B : Option Addr) (cB : Nat) (m : List NT), ers m = l ∧ Row w' (Fr w w') B cB m ∧ e = .returned (.slice B m.length cB) ∧ (∃ A' cA', Pq w' g A' cA' r c ∧ rowT A' = rowT A) ∧ ∃ k, r = ts.drop k
def ListQ (g n : Nat) : Prop := ∀ (A : Option Addr) (cA : Nat) (ts : List Tok) (d c : Nat) (w : World), Pq w g A cA ts c → TsOk ts → ts.length ≤ n → d ≤ 32 → c ≤ 4096 →
  Calls Tryz.prog 28 #[.pointer (some ⟨g, 0, none⟩), .int .i64 d] w (ListPq g A ts w (P ts 2 false d c))
abbrev FXR := Except (Nat × Nat) (Bool × List NT × List NT × List Tok × Nat)
/-- What is in a block: t is its token, r what is behind it. -/
def FX (t : Tok) (r : List Tok) (d c : Nat) : FXR := match P r 2 false d c with
  | .error e => .error e
  | .ok (b, [], _) => .error (t.a, 7)
  | .ok (b, u :: r2, c1) =>
    if u.k = 7 then
      (if t.k = 2 then match P r2 2 false d c1 with
        | .error e => .error e
        | .ok (b2, [], _) => .error (t.a, 7)
        | .ok (b2, v :: r4, c2) => if v.k = 7 then .error (v.a, 13) else .ok (true, b, b2, r4, c2)
      else .error (u.a, 13))
    else .ok (false, b, [], r2, c1)
theorem NX_fx {t : Tok} {r : List Tok} {d c : Nat} (hn : ¬ (t.k = 6 ∧ 0 < d ∨ blk t.k = true ∧ 32 ≤ d)) (hc : c < 4096) (hb : blk t.k = true) : NX t r d c = match FX t r (d + 1) (c + 1) with
    | .error e => .error e
    | .ok (h, b, l, r', c') => .ok (nd t h b l, r', c') := by
  unfold NX FX
  rw [if_neg hn, if_neg (by omega), if_neg (by rw [hb]; decide)]
  cases P r 2 false (d + 1) (c + 1) with
  | error e => rfl
  | ok x =>
    obtain ⟨b, r1, c1⟩ := x
    cases r1 with
    | nil => rfl
    | cons u r2 =>
      dsimp only
      by_cases hu : u.k = 7
      · rw [if_pos hu, if_pos hu]
        by_cases h2 : t.k = 2
        · rw [if_pos h2, if_pos h2]
          cases P r2 2 false (d + 1) c1 with
          | error e => rfl
          | ok x =>
            obtain ⟨b2, r3, c2⟩ := x
            cases r3 with
            | nil => rfl
            | cons v r4 =>
              dsimp only
              by_cases hv : v.k = 7
              · rw [if_pos hv, if_pos hv]
              · rw [if_neg hv, if_neg hv]
        · rw [if_neg h2, if_neg h2]
      · rw [if_neg hu, if_neg hu]
theorem tail_of {u : Tok} {r2 r : List Tok} {k : Nat} (h : u :: r2 = r.drop k) : r2 = r.drop (k + 1) := by
  have e : r.drop (k + 1) = (r.drop k).drop 1 := by rw [List.drop_drop]
  rw [e, ← h]; rfl
/-- How fill ends: the block's cells are filled. -/
def FillPq (g b : Nat) (A : Option Addr) (t : Tok) (r : List Tok) (w : World) (res : FXR) (e : Ending) (w' : World) : Prop := Only [g, b] w w' ∧ match res with
  | .error (a, k) => e = pan a k
  | .ok (h, x, l, r', c) => e = .returned (.tuple #[]) ∧ ∃ (B : Option Addr) (cB : Nat) (m : List NT) (D : Option Addr) (cD : Nat) (q : List NT), ers m = x ∧ ers q = l ∧ Row w' (Fr w w') B cB m ∧ Row w' (Fr w w') D cD q ∧
    Blk w' b 69 [.int .i64 t.k, .int .i64 t.a, .string (ofL t.s), .string (ofL t.p), .bool t.h, .bool h, .slice B m.length cB, .slice D q.length cD] ∧ (∃ A' cA', Pq w' g A' cA' r' c ∧ rowT A' = rowT A) ∧ ∃ k, r' = r.drop k
set_option maxRecDepth 100000 in
set_option maxHeartbeats 3200000 in
theorem fill_c {g n : Nat} (IH : ListQ g n) (b : Nat) (A : Option Addr) (cA : Nat) (t : Tok) (r : List Tok) (d c : Nat) (w : World) (hP : Pq w g A cA r c) (hG : TsOk r) (hn : r.length ≤ n) (hd : d ≤ 32) (hc : c ≤ 4096)
    (hB : Blk w b 69 [.int .i64 t.k, .int .i64 t.a, .string (ofL t.s), .string (ofL t.p), .bool t.h, .bool false, .slice none 0 0, .slice none 0 0]) (hbg : b ≠ g) (hbA : b ∉ rowT A) :
    Calls Tryz.prog 82 #[.pointer (some ⟨g, 0, none⟩), .pointer (some ⟨b, 0, none⟩), .int .i64 d] w (FillPq g b A t r w (FX t r d c)) := by
  have HIH := Lib.hid (fun (A : Option Addr) (cA : Nat) (ts : List Tok) (c : Nat) (W : World) (h1 : Pq W g A cA ts c) (h2 : TsOk ts) (h3 : ts.length ≤ n) (h4 : c ≤ 4096) => IH A cA ts d c W h1 h2 h3 hd h4)
  have HP := Lib.hid hP
  have HG := Lib.hid hG
  have HN := Lib.hid hn
  have HB := Lib.hid hB
  have HBA := Lib.hid hbA
  have HD := Lib.hid hd
  have hbl := hB.lt
  have hgl := hP.blk.lt
  have HAL : Hid (∀ k, k ∈ rowT A → k < w.heap.size) := Lib.hid (fun k hk => hP.row.lt k hk)
  clear hP hG hn hB hbA IH
  go_enter Tryz.func82, Tryz.ntmps82
  go_wp2_with fail
  refine (HIH.out A cA r c w HP.out HG.out HN.out hc).mono ?_
  rintro e w1 ⟨hO, hp⟩
  have HO1 := Lib.hid hO
  have HB1 := Lib.hid (HB.out.only hO (by simp; exact hbg))
  clear hO
  cases hres : P r 2 false d c with
  | error ak =>
    obtain ⟨a, k⟩ := ak
    rw [hres] at hp
    dsimp only at hp
    subst hp
    have HRES := Lib.hid hres
    clear hres
    go_wp2_with fail
    refine ⟨rfl, ?_⟩
    unfold FX
    rw [HRES.out]
    exact ⟨HO1.out.more (by simp), rfl⟩
  | ok x =>
    obtain ⟨x, rr, c1⟩ := x
    rw [hres] at hp
    obtain ⟨B, cB, m, hers, hrow, rfl, ⟨A1, cA1, hPs, hA1⟩, k1, hk1⟩ := hp
    have HRES := Lib.hid hres
    have HER := Lib.hid hers
    have HA1 := Lib.hid hA1
    have HK1 := Lib.hid hk1
    have hpg := P_good hres hc HD.out
    have hc14 := hpg.2.1
    have hrl := P_rest hres
    have HRL : Hid (rr.length ≤ n) := Lib.hid (by have := HN.out; omega)
    have HGR : Hid (TsOk rr) := Lib.hid (by rw [hk1]; exact HG.out.drop k1)
    have HS1 := Lib.hid HO1.out.size
    have hb1 : b < w1.heap.size := by have := HS1.out; omega
    obtain ⟨x0, x1, x2, x3, x4, x5, x6, x7⟩ := cells8 HB1.out
    have f6 := HB1.out.free 6
    have HPS := Lib.hid hPs
    have HRW := Lib.hid hrow
    clear hres hers hA1 hk1 hpg hrl hPs hrow
    go_wp2_with fail
    have HO2 := Lib.hid ((HO1.out.more (T := [g, b]) (by simp)).setCell (p := ⟨b, 6, none⟩) (.inl (by simp)) (.slice B m.length cB))
    have HB2 := Lib.hid (HB1.out.set_ 6 (.slice B m.length cB))
    have HPS2 := Lib.hid (HPS.out.only ((Only.refl [b] w1).setCell (p := ⟨b, 6, none⟩) (.inl (by simp)) (.slice B m.length cB)) (by simp; exact fun h => hbg h.symm) (fun k hk => by rw [HA1.out] at hk; simp; intro h; subst h; exact HBA.out hk))
    have HRW2 : Hid (Row (w1.setCell ⟨b, 6, none⟩ (.slice B m.length cB)) (fun q => w.heap.size ≤ q ∧ q < (w1.setCell ⟨b, 6, none⟩ (.slice B m.length cB)).heap.size) B cB m) := Lib.hid (HRW.out.onlyS (S := [b]) ((Only.refl _ _).setCell (.inl (by simp)) _) (fun q hq => ⟨by have := hq.1; simp; omega, hq.2⟩) (fun q hq => ⟨hq.1, by have := hq.2; simpa [World.setCell] using this⟩))
    have hs2 : w.heap.size ≤ (w1.setCell ⟨b, 6, none⟩ (.slice B m.length cB)).heap.size := by have := HS1.out; simpa [World.setCell] using this
    simp only [List.set_cons_zero, List.set_cons_succ] at HB2
    clear x0 x1 x2 x3 x4 x5 x6 x7 f6 hb1
    clear HPS HB1 HO1 HRW HS1
    generalize w1.setCell ⟨b, 6, none⟩ (.slice B m.length cB) = w2 at HPS2 HB2 HO2 HRW2 hs2 ⊢
    cases rr with
    | nil =>
      refine (ending_none g b A1 cA1 c1 t.a w2 HPS2.out (HB2.out.cell 1) (by omega)).mono ?_
      rintro e w3 ⟨rfl, hb⟩
      have HO3 := Lib.hid (HO2.out.trans ((bel_only hb).more (by simp)))
      clear hb
      unfold flt
      go_wp2_with fail
      refine ⟨rfl, ?_⟩
      unfold FX
      rw [HRES.out]
      exact ⟨HO3.out, rfl⟩
    | cons u r2 =>
      refine (ending_some g ⟨b, 0, none⟩ A1 cA1 c1 u r2 w2 HPS2.out).mono ?_
      rintro e w3 ⟨rfl, hO3, hP3⟩
      have HO3 := Lib.hid (HO2.out.trans (hO3.more (by simp)))
      have HB3 := Lib.hid (HB2.out.only hO3 (by simp; exact hbg))
      have HP3 := Lib.hid hP3
      have hs3 : w2.heap.size ≤ w3.heap.size := hO3.size
      have HRW3 : Hid (Row w3 (fun q => w.heap.size ≤ q ∧ q < w3.heap.size) B cB m) := Lib.hid (HRW2.out.onlyS (S := [g]) hO3 (fun q hq => ⟨by have := hq.1; simp; omega, hq.2⟩) (fun q hq => ⟨hq.1, by have := hq.2; omega⟩))
      have hb3 : ¬ b = w3.heap.size := by omega
      have hb4 : ¬ w3.heap.size = b := by omega
      have hg3 : ¬ g = w3.heap.size := by omega
      have hg4 : ¬ w3.heap.size = g := by omega
      clear hO3 hP3 HO2 HB2 HPS2 HRW2
      obtain ⟨x0, x1, x2, x3, x4, x5, x6, x7⟩ := cells8 HB3.out
      have f5 := HB3.out.free 5
      have m0 : ∀ ob, (w3.alloc ob).cell? ⟨b, 0, none⟩ = some (.int .i64 t.k) := fun ob => (HB3.out.alloc ob).cell 0
      have m5 : ∀ ob, (w3.alloc ob).cell? ⟨b, 5, none⟩ = some (.bool false) := fun ob => (HB3.out.alloc ob).cell 5
      have n5 : ∀ ob, (w3.alloc ob).frozen? ⟨b, 5, none⟩ = false := fun ob => (HB3.out.alloc ob).free 5
      by_cases hu : u.k = 7
      · have h7b : ((u.k : Int) == 7) = true := by rw [hu]; rfl
        have HU7 := Lib.hid hu
        by_cases h2 : t.k = 2
        · have h2b : ((t.k : Int) == 2) = true := by rw [h2]; rfl
          have HK2 := Lib.hid h2
          clear hu h2
          go_wp2_with fail
          have HT4 := Lib.hid ((Blk.new w3 64 [.int .i64 u.k, .int .i64 u.a, .string (ofL u.s), .string (ofL u.p), .bool u.h]).far (p := ⟨b, 5, none⟩) hb4 (.bool true))
          have HB4 := Lib.hid ((HB3.out.alloc (.cells #[.int .i64 u.k, .int .i64 u.a, .string (ofL u.s), .string (ofL u.p), .bool u.h] 64)).set_ 5 (.bool true))
          have ho : Only [b] w3 ((w3.alloc (.cells #[.int .i64 u.k, .int .i64 u.a, .string (ofL u.s), .string (ofL u.p), .bool u.h] 64)).setCell ⟨b, 5, none⟩ (.bool true)) := ((Only.refl [b] w3).alloc _).setCell (.inl (by simp)) _
          have HP4 := Lib.hid (HP3.out.only ho (by simp; exact fun h => hbg h.symm) (fun k hk => by rw [rowT_cut, HA1.out] at hk; simp; intro h; subst h; exact HBA.out hk))
          have HO4 := Lib.hid (HO3.out.trans (ho.more (T := [g, b]) (by simp)))
          have HRW4 := Lib.hid (HRW3.out.onlyS (S := [b]) (Q' := fun q => w.heap.size ≤ q ∧ q < w3.heap.size) ho (fun q hq => ⟨by have := hq.1; simp; omega, hq.2⟩) (fun q hq => hq))
          have hsz4 : ((w3.alloc (.cells #[.int .i64 u.k, .int .i64 u.a, .string (ofL u.s), .string (ofL u.p), .bool u.h] 64)).setCell ⟨b, 5, none⟩ (.bool true)).heap.size = w3.heap.size + 1 := by simp [World.setCell]
          simp only [List.set_cons_zero, List.set_cons_succ] at HB4
          have htA : ∀ k, k ∈ rowT (cutA cA1 1 5 A1) → k ≠ w3.heap.size := fun k hk => by rw [rowT_cut, HA1.out] at hk; have := HAL.out k hk; omega
          have HTA := Lib.hid htA
          have hwt : w.heap.size ≤ w3.heap.size := by omega
          clear ho htA m0 m5 n5 x0 x1 x2 x3 x4 x5 x6 x7 f5
          clear HO3 HB3 HP3 HRW3
          generalize (w3.alloc (.cells #[.int .i64 u.k, .int .i64 u.a, .string (ofL u.s), .string (ofL u.p), .bool u.h] 64)).setCell ⟨b, 5, none⟩ (.bool true) = w4 at HT4 HB4 HP4 HO4 HRW4 hsz4 ⊢
          generalize w3.heap.size = tb at *
          refine (HIH.out _ _ r2 c1 w4 HP4.out HGR.out.tail (by have := HRL.out; simp at this; omega) hc14).mono ?_
          rintro e w5 ⟨hO5, hp5⟩
          have HO5 := Lib.hid (HO4.out.trans (hO5.more (T := [g, b]) (by simp)))
          have HB5 := Lib.hid (HB4.out.only hO5 (by simp; exact hbg))
          have HT5 := Lib.hid (HT4.out.only hO5 (by simp; exact fun h => hg3 h.symm))
          have HRW5 := Lib.hid (HRW4.out.onlyS (S := [g]) (Q' := fun q => w.heap.size ≤ q ∧ q < tb) hO5 (fun q hq => ⟨by have := hq.1; simp; omega, by have := hq.2; omega⟩) (fun q hq => hq))
          have hsz5 : tb + 1 ≤ w5.heap.size := by have := hO5.size; omega
          clear hO5 HO4 HB4 HT4 HP4 HRW4
          cases hres2 : P r2 2 false d c1 with
          | error ak =>
            obtain ⟨a, k⟩ := ak
            rw [hres2] at hp5
            dsimp only at hp5
            subst hp5
            have HRES2 := Lib.hid hres2
            clear hres2
            go_wp2_with fail
            refine ⟨rfl, ?_⟩
            unfold FX
            rw [HRES.out]
            dsimp only
            rw [if_pos HU7.out, if_pos HK2.out, HRES2.out]
            exact ⟨HO5.out, rfl⟩
          | ok y =>
            obtain ⟨y, r3, c2⟩ := y
            rw [hres2] at hp5
            obtain ⟨D, cD, q, hers, hrow, rfl, ⟨A2, cA2, hPs, hA2⟩, k2, hk2⟩ := hp5
            have HRES2 := Lib.hid hres2
            have HER2 := Lib.hid hers
            have HA2 : Hid (rowT A2 = rowT A) := Lib.hid (by rw [hA2, rowT_cut, HA1.out])
            have HK2' := Lib.hid hk2
            have HPS5 := Lib.hid hPs
            have HRW5' := Lib.hid hrow
            obtain ⟨x0, x1, x2, x3, x4, x5, x6, x7⟩ := cells8 HB5.out
            have f7 := HB5.out.free 7
            clear hres2 hers hA2 hk2 hPs hrow
            go_wp2_with fail
            have ho : Only [b] w5 (w5.setCell ⟨b, 7, none⟩ (.slice D q.length cD)) := (Only.refl [b] w5).setCell (.inl (by simp)) _
            have HO6 := Lib.hid (HO5.out.trans (ho.more (T := [g, b]) (by simp)))
            have HB6 := Lib.hid (HB5.out.set_ 7 (.slice D q.length cD))
            have HT6 := Lib.hid (HT5.out.only ho (by simp; exact hb4))
            have HPS6 := Lib.hid (HPS5.out.only ho (by simp; exact fun h => hbg h.symm) (fun k hk => by rw [HA2.out] at hk; simp; intro h; subst h; exact HBA.out hk))
            have HRW6 := Lib.hid (HRW5.out.onlyS (S := [b]) (Q' := fun q => w.heap.size ≤ q ∧ q < tb) ho (fun q hq => ⟨by have := hq.1; simp; omega, by have := hq.2; omega⟩) (fun q hq => hq))
            have HRW6' := Lib.hid (HRW5'.out.onlyS (S := [b]) (Q' := fun q => tb < q ∧ q < w5.heap.size) ho (fun q hq => ⟨by have := hq.1; simp; omega, by have := hq.2; omega⟩) (fun q hq => ⟨by have := hq.1; omega, hq.2⟩))
            have hsz6 : (w5.setCell ⟨b, 7, none⟩ (.slice D q.length cD)).heap.size = w5.heap.size := by simp [World.setCell]
            simp only [List.set_cons_zero, List.set_cons_succ] at HB6
            clear ho x0 x1 x2 x3 x4 x5 x6 x7 f7
            clear HO5 HB5 HT5 HPS5 HRW5 HRW5'
            generalize w5.setCell ⟨b, 7, none⟩ (.slice D q.length cD) = w6 at HO6 HB6 HT6 HPS6 HRW6 HRW6' hsz6 ⊢
            rw [← hsz6] at HRW6' hsz5
            cases r3 with
            | nil =>
              refine (ending_none g b A2 cA2 c2 t.a w6 HPS6.out (HB6.out.cell 1) (by omega)).mono ?_
              rintro e w7 ⟨rfl, hb⟩
              have HO7 := Lib.hid (HO6.out.trans ((bel_only hb).more (by simp)))
              clear hb
              unfold flt
              go_wp2_with fail
              refine ⟨rfl, ?_⟩
              unfold FX
              rw [HRES.out]
              dsimp only
              rw [if_pos HU7.out, if_pos HK2.out, HRES2.out]
              exact ⟨HO7.out, rfl⟩
            | cons v r4 =>
              refine (ending_some g ⟨b, 0, none⟩ A2 cA2 c2 v r4 w6 HPS6.out).mono ?_
              rintro e w7 ⟨rfl, hO7, hP7⟩
              have HO7 := Lib.hid (HO6.out.trans (hO7.more (by simp)))
              have HB7 := Lib.hid (HB6.out.only hO7 (by simp; exact hbg))
              have HT7 := Lib.hid (HT6.out.only hO7 (by simp; exact fun h => hg3 h.symm))
              have HP7 := Lib.hid hP7
              have hs7 : w6.heap.size ≤ w7.heap.size := hO7.size
              have HRW7 := Lib.hid (HRW6.out.onlyS (S := [g]) (Q' := fun q => w.heap.size ≤ q ∧ q < tb) hO7 (fun q hq => ⟨by have := hq.1; simp; omega, by have := hq.2; omega⟩) (fun q hq => hq))
              have HRW7' := Lib.hid (HRW6'.out.onlyS (S := [g]) (Q' := fun q => tb < q ∧ q < w7.heap.size) hO7 (fun q hq => ⟨by have := hq.1; simp; omega, hq.2⟩) (fun q hq => ⟨hq.1, by have := hq.2; omega⟩))
              clear hO7 hP7 HO6 HB6 HT6 HPS6 HRW6 HRW6'
              obtain ⟨z0, z1, z2, z3, z4⟩ := cells5 HT7.out
              obtain ⟨f0, f1, f2, f3, f4⟩ := frees5 HT7.out
              by_cases hv : v.k = 7
              · have hv7 : ((v.k : Int) == 7) = true := by rw [hv]; rfl
                have HV7 := Lib.hid hv
                clear hv
                go_wp2_with fail
                refine ⟨rfl, ?_⟩
                unfold FX
                rw [HRES.out]
                dsimp only
                rw [if_pos HU7.out, if_pos HK2.out, HRES2.out]
                dsimp only
                rw [if_pos HV7.out]
                exact ⟨HO7.out.join (only5 w7 tb _ _ _ _ _) (fun k hk => .inr (by simp at hk; omega)), rfl⟩
              · have hv7 : ((v.k : Int) == 7) = false := by rw [beq_eq_false_iff_ne]; omega
                have HV7 := Lib.hid hv
                clear hv
                go_wp2_with fail
                have hos : Only [tb] w7 (((((w7.setCell ⟨tb, 0, none⟩ (.int .i64 v.k)).setCell ⟨tb, 1, none⟩ (.int .i64 v.a)).setCell ⟨tb, 2, none⟩ (.string (ofL v.s))).setCell ⟨tb, 3, none⟩ (.string (ofL v.p))).setCell ⟨tb, 4, none⟩ (.bool v.h)) := only5 w7 tb _ _ _ _ _
                have hsz8 : (((((w7.setCell ⟨tb, 0, none⟩ (.int .i64 v.k)).setCell ⟨tb, 1, none⟩ (.int .i64 v.a)).setCell ⟨tb, 2, none⟩ (.string (ofL v.s))).setCell ⟨tb, 3, none⟩ (.string (ofL v.p))).setCell ⟨tb, 4, none⟩ (.bool v.h)).heap.size = w7.heap.size := by simp [World.setCell]
                go_end0
                unfold FX
                rw [HRES.out]
                dsimp only
                rw [if_pos HU7.out, if_pos HK2.out, HRES2.out]
                dsimp only
                rw [if_neg HV7.out]
                exact ⟨HO7.out.join hos (fun k hk => .inr (by simp at hk; omega)), rfl, B, cB, m, D, cD, q, HER.out, HER2.out, HRW7.out.onlyS hos (fun z hz => ⟨by have := hz.2; simp; omega, by have := hz.2; omega⟩) (fun z hz => ⟨hz.1, by have := hz.2; rw [hsz8]; omega⟩), HRW7'.out.onlyS hos (fun z hz => ⟨by have := hz.1; simp; omega, hz.2⟩) (fun z hz => ⟨by have := hz.1; omega, by have := hz.2; rw [hsz8]; omega⟩), HB7.out.only hos (by simp; exact hb3), ⟨_, _, HP7.out.only hos (by simp; exact hg3) (fun k hk => by rw [rowT_cut, HA2.out] at hk; have := HAL.out k hk; simp; omega), by rw [rowT_cut]; exact HA2.out⟩, k1 + 1 + (k2 + 1), by rw [tail_of HK2'.out, tail_of HK1.out, List.drop_drop]⟩
        · have h2b : ((t.k : Int) == 2) = false := by rw [beq_eq_false_iff_ne]; omega
          have HK2 := Lib.hid h2
          clear hu h2
          go_wp2_with fail
          refine ⟨rfl, ?_⟩
          unfold FX
          rw [HRES.out]
          dsimp only
          rw [if_pos HU7.out, if_neg HK2.out]
          exact ⟨HO3.out.alloc _, rfl⟩
      · have h7b : ((u.k : Int) == 7) = false := by rw [beq_eq_false_iff_ne]; omega
        have HU7 := Lib.hid hu
        clear hu
        go_wp2_with fail
        have hos : Only [] w3 (w3.alloc (.cells #[.int .i64 u.k, .int .i64 u.a, .string (ofL u.s), .string (ofL u.p), .bool u.h] 64)) := (Only.refl [] w3).alloc _
        go_end0
        unfold FX
        rw [HRES.out]
        dsimp only
        rw [if_neg HU7.out]
        exact ⟨HO3.out.alloc _, rfl, B, cB, m, none, 0, [], HER.out, by simp [ers], HRW3.out.onlyS hos (fun q hq => ⟨by simp, hq.2⟩) (fun q hq => ⟨hq.1, by have := hq.2; simp; omega⟩), Row.nil _ _, HB3.out.alloc _, ⟨_, _, HP3.out.only hos (by simp) (by simp), by rw [rowT_cut]; exact HA1.out⟩, k1 + 1, tail_of HK1.out⟩
end Go.Proofs.YtpcapmdfjmpdiaaGreatDoor
